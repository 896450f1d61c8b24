import PyProof.Rows.All
import Wide.All
import OpenK.AllK
import Wide.FinOn
import HandS.GenList
import HandS.AnyAll
import HandS.EndOwn
import HandS.SortInts
import HandS.Walk
import HandS.ForMost
import HandS.Style
import HandS.Conv
import HandS.Evl
import HandS.Wide
import HandS.Star
import HandS.IsInst
import KE.BitLaws
import HandS.SortKw
import HandS.NamedTupSort
import HandS.DictEq
import KE.DataMinMax
import KE.KDictSum
import HandS.More
import PySem.Challenge.RW_kraftroom_k06_whole_certificates
import HandS.DictComp
import HandS.ExcInit
import HandS.ExcIs
import HandS.FStr
import KE.KExcIs
import KE.KExcPX
import KE.KTypeName
import HandS.TryMany
import HandS.ExcField
import HandS.ExcOwn
import HandS.WordsExc
import HandS.WideBits
import HandS.EndTab
set_option Elab.async false
set_option linter.all false
set_option maxRecDepth 100000
set_option maxHeartbeats 4000000
/-! Generator expressions over the layer: any target, tests, element; consumed by sorted, sum, any, all. -/
namespace GX
open PySem PySem.Spec PyProof.Rows L2 GenW

abbrev Pins := List (Addr × Obj)
structure Sleeps (Ss : List Addr) (s s' : Shared) : Prop where
  os : s'.os = s.os
  bare : AllBare s'.gens
  keep : ∀ b o, b ∉ Ss → s.heap.get? b = some o → s'.heap.get? b = some o
structure PinsAt (Ss : List Addr) (pl : Pins) (h : Heap) : Prop where
  ad : pl.map (·.1) = Ss
  at_ : ∀ p ∈ pl, h.get? p.1 = some p.2 ∧ ∀ v, p.2.data ≠ .cell v
structure Cons where
  Ss : List Addr
  Gh : List V → Pins → Prop
  Th : List V → V → Hp → Prop
  Qe : List V → Hp → Prop

abbrev gcx (X : Cx) (sB : Shared) (HB : Hp) (N' : List Str) (cenv : Env) (fp : List Addr) (A : Around) (pn : Pins) : Cx :=
  { X with A := A, N := N', s_0 := sB, H_0 := HB, env := cenv, outer := X.stack, stack := cenv :: X.stack, ex := fp, fn := fun _ => false, calm := true, pn := pn, xe := fun _ _ => False }

/-- the generator expression's own scope, its names N', which of them are captured (cm: their slots outside) -/
structure CapOk (N N' : List Str) (cm : List (Option Nat)) (scope sc : Scope) : Prop where
  kind : scope.kind = .function
  co : scope.isCoroutine = false
  cell : ∀ y ∈ scope.names, y.2 ≠ .cell
  dot : scope.names.lookup (".0" : Str) = some NameKind.local
  free : ∀ y ∈ scope.names, y.2 = .free → sc.names.lookup y.1 = some .cell ∨ sc.names.lookup y.1 = some .free
  len : cm.length = N'.length
  cap : ((cm.zip N').all fun p => match p.1 with | some j => (N[j]? == some p.2) && (scope.names.lookup p.2 == some .free) | none => true) = true
def captS (cm : List (Option Nat)) (σ : L2.St) : L2.St := cm.map fun o => match o with
  | some j => (σ[j]?).join
  | none => none
theorem captS_some {cm : List (Option Nat)} {σ : L2.St} {i : Nat} {v : V} (h : (captS cm σ)[i]? = some (some v)) : ∃ j, cm[i]? = some (some j) ∧ σ[j]? = some (some v) := by
  unfold captS at h
  rw [List.getElem?_map] at h
  cases hc : cm[i]? with
  | none => rw [hc] at h; cases h
  | some o =>
    rw [hc] at h
    cases o with
    | none => cases h
    | some j =>
      refine ⟨j, rfl, ?_⟩
      have h' : (σ[j]?).join = some v := Option.some.inj h
      cases hs : σ[j]? with
      | none => rw [hs] at h'; cases h'
      | some w => rw [hs] at h'; exact congrArg some h'
theorem CapOk.capt {N N' : List Str} {cm : List (Option Nat)} {scope sc : Scope} (ok : CapOk N N' cm scope sc) {i j : Nat} {y : Str} (h1 : cm[i]? = some (some j)) (h2 : N'[i]? = some y) : N[j]? = some y ∧ scope.names.lookup y = some .free := by
  have h := List.all_eq_true.mp ok.cap (some j, y) (List.mem_of_getElem? (i := i) (by rw [List.getElem?_zip_eq_some]; exact ⟨h1, h2⟩))
  simp only [Bool.and_eq_true, beq_iff_eq] at h
  exact h

theorem inv_gens {G : Cx} {pl : Pins} {σ : L2.St} {H : Hp} {s : Shared} (I : Inv G pl σ H s) {g : Nat} {x : GenState} (hx : x.bare = true) : Inv G pl σ H (s.setGen g x) :=
  ⟨I.ok, I.os, allBare_setGen I.bare hx, I.base, I.loc, I.cell, I.free, I.freeC, I.pin, I.hok, I.len⟩

theorem woken {G : Cx} {Ss : List Addr} {pl pl' : Pins} {σ : L2.St} {H : Hp} {s s' : Shared} (hpn : ∀ p ∈ G.pn, p.1 ∉ Ss)
    (hap : ∀ b ∈ Ss, G.s_0.heap.objs.size ≤ b ∧ b ≠ G.env.locals ∧ ∀ x c, G.env.cells.lookup x = some c → c ≠ b) (hp : PinsAt Ss pl s.heap) (I : Inv G pl σ H s) (z : Sleeps Ss s s') (hp' : PinsAt Ss pl' s'.heap) :
    Inv G pl' σ H s' := by
  have fr : ∀ b ∈ Ss, H b = none ∧ b ≠ G.env.locals ∧ b ∉ G.fs := fun b hb => by
    rw [← hp.ad] at hb
    obtain ⟨p, hm, e⟩ := List.mem_map.mp hb
    obtain ⟨_, h2, h3, h4, _⟩ := I.pin p (List.mem_append_right _ hm)
    rw [← e]
    exact ⟨h2, h3, h4⟩
  have I0 : Inv G [] σ H s := I.pins_of fun p hp => absurd hp (by simp)
  have nt : ∀ b u, H b = some u → b ∉ Ss := fun b u q hb => by rw [(fr b hb).1] at q; cases q
  obtain ⟨z1, z2, z3⟩ := z
  obtain ⟨hh, g, d, t, o⟩ := s'
  have ho : o = s.os := z1
  subst ho
  have J : Inv G [] σ H { s with heap := hh, gens := g, drawn := d, toks := t } := by
    refine I0.step (g' := g) (t' := t) (d' := d) (ch := Ss) (fun b hb => ?_)
      (fun b ob _ _ hc q _ => z3 b ob hc q) (fun b ob _ _ hc q _ => ⟨ob.slots, z3 b ob hc q⟩) (fun _ _ _ _ n => n) (fun b ob hc q => ⟨ob, z3 b ob hc q⟩)
      (fun _ _ q => q) (fun _ _ _ q => q) (fun b ps q => ⟨#[], by rw [q]; simp⟩) (fun m hm => ?_) (fun b u q => ?_) z2
    · refine ⟨.inr (hap b hb).1, (hap b hb).2.1, (hap b hb).2.2, fun p hp => ?_⟩
      rcases List.mem_append.mp hp with hp | hp
      · exact fun e => hpn p hp (by rw [e]; exact hb)
      · cases hp
    · obtain ⟨ob, es, ep, ho, r⟩ := hm
      exact ⟨ob, es, ep, z3 _ ob (fun hm => (fr _ hm).2.1 rfl) ho, r⟩
    · refine (I0.hok b u q).stay (fun c v hc y => z3 c v ?_ y) (fun _ y => y) fun _ _ y => y
      rcases hc with y | y
      · rw [y]; exact nt b u q
      · exact nt c _ y
  refine J.pins_of fun p hp => ?_
  have hS : p.1 ∈ Ss := by rw [← hp'.ad]; exact List.mem_map.mpr ⟨p, hp, rfl⟩
  exact ⟨(hp'.at_ p hp).1, (fr _ hS).1, (fr _ hS).2.1, (fr _ hS).2.2, (hp'.at_ p hp).2⟩

def GY (G : Cx) (C : Cons) (σ0 : L2.St) : Protocol := fun n s₀ v s kap =>
  ∃ ys x pl H, n + 1 + ys.length = sizeLine ∧ RelV x v ∧ PinsAt C.Ss pl s.heap ∧ C.Gh ys pl ∧ Inv G pl σ0 H s ∧ C.Th ys x H ∧
    (∀ b ∈ C.Ss, s.heap.get? b = s₀.heap.get? b) ∧ ∀ s' pl', Sleeps C.Ss s s' → PinsAt C.Ss pl' s'.heap → C.Gh (ys ++ [x]) pl' → kap (.send .none) s'
def GP (G : Cx) (C : Cons) (σ0 : L2.St) (s₀ s : Shared) : Prop := ∃ ys pl H, ys.length ≤ sizeLine ∧ PinsAt C.Ss pl s.heap ∧ C.Gh ys pl ∧ Inv G pl σ0 H s ∧ C.Qe ys H ∧ ∀ b ∈ C.Ss, s.heap.get? b = s₀.heap.get? b
def GR (G : Cx) (C : Cons) (σ0 : L2.St) : GenEnd := fun n s₀ r s => r = .ok .next ∧ GP G C σ0 s₀ s
theorem PinsAt.same {Ss : List Addr} {pl : Pins} {h h' : Heap} (a : PinsAt Ss pl h) (b : PinsAt Ss pl h') : ∀ x ∈ Ss, h'.get? x = h.get? x := fun x hx => by
  rw [← a.ad] at hx
  obtain ⟨p, hp, e⟩ := List.mem_map.mp hx
  rw [← e, (a.at_ p hp).1, (b.at_ p hp).1]

theorem over_gl {A : Around} {elt : Expr} {gens : List Comprehension} {scope : Scope} {pos : Pos} {it acc : Value} {env : Env} : A.over (.compLoop (.GeneratorExp elt gens scope pos) 0 it acc env) [] = A.deeper env := by
  first
    | rfl
    | (obtain ⟨hd, d, fr, gs, u⟩ := A; simp [Around.over, Around.deeper, marksOver, frameCount, unitsOf, envsOf, guardsOf, pushEnvs, pushGuards, Code.envs, Code.env?, Code.isFrame, Code.guards, Code.isGuard, Code.weight, Code.frames, Code.isCreation, Code.isCaller, Code.cUnits])

/-- what each turn is to bring -/
def Turns (J : It) (g : TG) (tt : TT) (te : TE) (σ0 : L2.St) (own : List Nat) (Th : List V → V → Hp → Prop) (Qe : List V → Hp → Prop) (W : Nat → Nat → List V → Hp → Prop) : Prop :=
  ∀ i m ys H, W i m ys H → (J.stop i H ∧ Qe ys H) ∨ (J.go i H ∧ ∃ Nx : List V → Hp → Prop, (∀ ys' H', Nx ys' H' → ∃ m', m' < m ∧ W (i + 1) m' ys' H') ∧
    ∀ x H', J.yld i H x H' → g x σ0 H' fun σ2 H2 => wipe σ2 own = σ0 ∧ tt σ2 H2 fun b H3 =>
      if b = true then te σ2 H3 fun y H4 => ys.length < sizeLine ∧ Th ys y H4 ∧ Nx (ys ++ [y]) H4 else Nx ys H3)

section
variable {G : Cx} {A : Around} {C : Cons} {cenv : Env} {tg elt iter : Expr} {ifs : List Expr} {scope : Scope} {pos : Pos} {J : It} {fp : List Addr} {it : Addr} {tn : Nat → Heap → Prop} {g : TG} {tt : TT} {te : TE} {σ0 : L2.St} {own : List Nat}
  {W : Nat → Nat → List V → Hp → Prop}
theorem seg_loop (hA : A.deeper cenv = G.A) (hE : G.env = cenv) (hcalm : G.calm = true) (hxe : G.xe = fun _ _ => False) (hco : cenv.scope.isCoroutine = false)
    (T : Turn G.prog G.w G.K tg J fp it tn) (hg : PG G tg g) (ht : PTs G ifs tt) (he : PE G elt te)
    (hpn : ∀ p ∈ G.pn, p.1 ∉ C.Ss) (hap : ∀ b ∈ C.Ss, G.s_0.heap.objs.size ≤ b ∧ b ≠ G.env.locals ∧ ∀ x c, G.env.cells.lookup x = some c → c ≠ b)
    (hfp : ∀ b ∈ fp, b ≠ G.env.locals ∧ b ∉ G.fs ∧ (b ∈ G.ex ∨ G.s_0.heap.objs.size ≤ b) ∧ (∀ x c, G.env.cells.lookup x = some c → c ≠ b) ∧ (∀ p ∈ G.pn, p.1 ≠ b) ∧ b ∉ C.Ss)
    (tr : Turns J g tt te σ0 own C.Th C.Qe W) :
    ∀ (m i n : Nat) (ys : List V) (s₀ s : Shared) (H : Hp) (pl : Pins), n + ys.length = sizeLine → W i m ys H → PinsAt C.Ss pl s.heap → C.Gh ys pl → Inv G pl σ0 H s → tn i s.heap → (∀ b ∈ fp, H b = none) → (∀ b ∈ C.Ss, s.heap.get? b = s₀.heap.get? b) →
      Seg (model G.prog G.w) A (GR G C σ0) (GY G C σ0) n s₀ (.compLoop (.GeneratorExp elt [⟨tg, iter, ifs, 0⟩] scope pos) 0 (.ref it) .none cenv)
        ((model G.prog G.w).den (.compLoop (.GeneratorExp elt [⟨tg, iter, ifs, 0⟩] scope pos) 0 (.ref it) .none cenv)) [] s := by
  subst hE
  intro m
  induction m using Nat.strongRecOn with
  | ind m ih =>
    intro i n ys s₀ s H pl hn w hp hgh I hst hfr hs0
    have hov : A.over (.compLoop (.GeneratorExp elt [⟨tg, iter, ifs, 0⟩] scope pos) 0 (.ref it) .none G.env) [] = G.A := over_gl.trans hA
    have stat : ∀ {pl' : Pins} {H' : Hp}, (pl'.map (·.1) = C.Ss) → (∀ b ∈ fp, H' b = none) → ∀ b ∈ fp, FpOk G pl' H' b := fun {pl' H'} had hn b hb => by
      obtain ⟨h1, h2, h3, h4, h5, h6⟩ := hfp b hb
      refine ⟨hn b hb, h1, h2, h3, h4, fun p hp => ?_⟩
      rcases List.mem_append.mp hp with hp | hp
      · exact h5 p hp
      · intro e
        exact h6 (by rw [← had, ← e]; exact List.mem_map.mpr ⟨p, hp, rfl⟩)
    show Seg _ A _ _ _ s₀ _ ((compTurn (.GeneratorExp elt [⟨tg, iter, ifs, 0⟩] scope pos) 0 (.ref it) .none G.env).onRaise (leaving G.env)) [] s
    rw [compTurn_gen, Sem.onRaise_eq_wrap]
    refine seg_bind_wrap (wpAny_standAt ?_)
    rcases tr i m ys H w with ⟨stop, qn⟩ | ⟨go, Nx, hN, step⟩
    · refine seg_bind_wrap ?_
      rw [hov]
      refine thn (T.done G rfl rfl rfl hcalm i pl s σ0 H _ I (stat hp.ad hfr) hst stop) fun r s4 ⟨hr, I4⟩ => ?_
      subst hr
      have hp4 : PinsAt C.Ss pl s4.heap := ⟨hp.ad, fun p hm => ⟨(I4.pin p (List.mem_append_right _ hm)).1, (hp.at_ p hm).2⟩⟩
      exact seg_end (.ok .next) ⟨rfl, ys, pl, H, by omega, hp4, hgh, I4, qn, fun b hb => (hp.same hp4 b hb).trans (hs0 b hb)⟩
    · refine seg_bind_wrap ?_
      rw [hov]
      refine thn (T.item G rfl rfl rfl hcalm i pl s σ0 H _ I (stat hp.ad hfr) hst go) fun r s4 ⟨u, hr, h4⟩ => ?_
      subst hr
      refine seg_bind_wrap ?_
      rw [hov]
      refine thn h4 fun _ s5 ⟨x, H5, I5, r5, y5, st5, fr5⟩ => ?_
      have I5' := I5.pinned (stat hp.ad fr5) (T.obj _ _ st5)
      refine seg_bind_wrap ?_
      rw [hov]
      refine wpAny_mono (hg.run _ s5 σ0 H5 x u _ I5' r5 (step x H5 y5)) (fun _ s6 ⟨σ6, H6, I6, hw6, q6⟩ => ?_) fun e s' hx => absurd hx (by rw [hxe]; exact fun z => z)
      refine seg_bind_wrap ?_
      rw [hov]
      refine wpAny_mono (ht.run _ s6 σ6 H6 _ I6 q6) (fun ok s7 ⟨H7, I7, q7⟩ => ?_) fun e s' hx => absurd hx (by rw [hxe]; exact fun z => z)
      have back : ∀ {s8 : Shared} {H8 : Hp}, Inv G (pl ++ pinsAt fp s5.heap) σ6 H8 s8 → Inv G pl σ0 H8 s8 ∧ PinsAt C.Ss pl s8.heap ∧ (∀ b ∈ fp, H8 b = none) ∧ ∀ b ∈ fp, ∀ o, s5.heap.get? b = some o → s8.heap.get? b = some o := fun {s8 H8} I8 => by
        refine ⟨(I8.unpinned).weak (by rw [← hw6, wipe_length]) fun j v hv => ?_, ⟨hp.ad, fun p hm => ?_⟩, fun b hb => ?_, fun b hb o e => ?_⟩
        · rw [← hw6] at hv
          exact (wipe_some hv).1
        · exact ⟨(I8.pin p (List.mem_append_right _ (List.mem_append_left _ hm))).1, (hp.at_ p hm).2⟩
        · obtain ⟨o, e, d⟩ := T.obj _ _ st5 b hb
          exact (I8.pin (b, o) (List.mem_append_right _ (List.mem_append_right _ (mem_pinsAt hb e)))).2.1
        · exact (I8.pin (b, o) (List.mem_append_right _ (List.mem_append_right _ (mem_pinsAt hb e)))).1
      cases ok with
      | false =>
        rw [if_neg Bool.false_ne_true] at q7
        simp only [Bool.false_eq_true, if_false]
        obtain ⟨I8, hp8, hf8, hk8⟩ := back I7
        obtain ⟨m', hm', w'⟩ := hN _ _ q7
        exact seg_again rfl (ih m' hm' (i + 1) n ys s₀ s7 H7 pl hn w' hp8 hgh I8 (T.keep _ _ _ st5 hk8) hf8 fun b hb => (hp.same hp8 b hb).trans (hs0 b hb))
      | true =>
        rw [if_pos rfl] at q7
        simp only [if_true]
        have hy : ∀ v, yieldOut G.env v = yieldValue v := fun v => by simp only [yieldOut, hco, Bool.false_eq_true, if_false]
        simp only [hy]
        rw [Sem.bind_eq_wrap', Sem.bind_eq_wrap', Sem.wrap_wrap, Sem.wrap_wrap]
        refine seg_wrap ?_
        rw [hov]
        refine wpAny_mono (he.run _ s7 σ6 H7 _ I7 q7) (fun v s8 ⟨y, H8, I8', r8, hlt, hth, hnx⟩ => ?_) fun e s' hx => absurd hx (by rw [hxe]; exact fun z => z)
        obtain ⟨n, rfl⟩ : ∃ k, n = k + 1 := ⟨n - 1, by omega⟩
        obtain ⟨I8, hp8, hf8, hk8⟩ := back I8'
        obtain ⟨m', hm', w'⟩ := hN _ _ hnx
        refine seg_at (seg_yield rfl rfl rfl ⟨ys, y, pl, H8, hn, r8, hp8, hgh, I8, hth, fun b hb => (hp.same hp8 b hb).trans (hs0 b hb), fun s'' pl' hsl hpl' hgh' => ?_⟩)
        refine seg_again rfl (ih m' hm' (i + 1) n (ys ++ [y]) s'' s'' H8 pl' (by rw [List.length_append, List.length_singleton]; omega) w' hpl' hgh' (woken hpn hap hp8 I8 hsl hpl')
          (T.keep _ _ _ st5 fun b hb o e => hsl.keep b o (hfp b hb).2.2.2.2.2 (hk8 b hb o e)) hf8 fun _ _ => rfl)

theorem seg_start (hA : A.deeper cenv = G.A) (hE : G.env = cenv) (hcalm : G.calm = true) (hxe : G.xe = fun _ _ => False) (hco : cenv.scope.isCoroutine = false)
    (T : Turn G.prog G.w G.K tg J fp it tn) (hg : PG G tg g) (ht : PTs G ifs tt) (he : PE G elt te)
    (hpn : ∀ p ∈ G.pn, p.1 ∉ C.Ss) (hap : ∀ b ∈ C.Ss, G.s_0.heap.objs.size ≤ b ∧ b ≠ G.env.locals ∧ ∀ x c, G.env.cells.lookup x = some c → c ≠ b)
    (hfp : ∀ b ∈ fp, b ≠ G.env.locals ∧ b ∉ G.fs ∧ (b ∈ G.ex ∨ G.s_0.heap.objs.size ≤ b) ∧ (∀ x c, G.env.cells.lookup x = some c → c ≠ b) ∧ (∀ p ∈ G.pn, p.1 ≠ b) ∧ b ∉ C.Ss)
    (tr : Turns J g tt te σ0 own C.Th C.Qe W) {m : Nat} {s₀ s : Shared} {H : Hp} {pl : Pins} (w : W 0 m [] H) (hp : PinsAt C.Ss pl s.heap) (hgh : C.Gh [] pl) (I : Inv G pl σ0 H s) (hst : tn 0 s.heap) (hfr : ∀ b ∈ fp, H b = none) (hs0 : ∀ b ∈ C.Ss, s.heap.get? b = s₀.heap.get? b) :
    Seg (model G.prog G.w) A (GR G C σ0) (GY G C σ0) sizeLine s₀ (.compStart (.GeneratorExp elt [⟨tg, iter, ifs, 0⟩] scope pos) 0 (.ref it) .none cenv)
      ((model G.prog G.w).den (.compStart (.GeneratorExp elt [⟨tg, iter, ifs, 0⟩] scope pos) 0 (.ref it) .none cenv)) [] s := by
  have loop := seg_loop (iter := iter) (scope := scope) (pos := pos) hA hE hcalm hxe hco T hg ht he hpn hap hfp tr m 0 sizeLine [] s₀ s H pl rfl w hp hgh I hst hfr hs0
  show Seg _ A _ _ _ s₀ _ ((compStart (.GeneratorExp elt [⟨tg, iter, ifs, 0⟩] scope pos) 0 (.ref it) .none cenv).onRaise (leaving cenv)) [] s
  unfold compStart
  rw [Sem.onRaise_eq_wrap]
  show Seg _ A _ _ _ s₀ _ ((ask >>= _).wrap _ _ _ _) [] s
  refine seg_bind_wrap (wpAny_askSetting ?_)
  split
  · exact seg_again rfl loop
  · first
      | exact seg_bind_wrap (wpAny_rule (seg_bind_wrap (wpAny_standAt (seg_bind_wrap (T.self _ 0 s _ _ hst (seg_again rfl loop))))))
      | (refine seg_bind_wrap (wpAny_rule ?_); show Seg _ A _ _ _ s₀ _ ((standAt iter.pos >>= _).wrap _ _ _ _) [] s; exact seg_bind_wrap (wpAny_standAt (seg_bind_wrap (T.self _ 0 s _ _ hst (seg_again rfl loop)))))
end
end GX
set_option Elab.async false
set_option linter.all false
set_option maxRecDepth 100000
set_option maxHeartbeats 4000000
namespace GX
open PySem PySem.Spec PyProof.Rows L2 GenW

section
variable {X : Cx} {pins : Pins} {σ : L2.St} {H : Hp} {sB : Shared} {N' : List Str} {cm : List (Option Nat)} {scope : Scope}
theorem gen_start (I : Inv X pins σ H sB) (ok : CapOk X.N N' cm scope X.env.scope) {code : Value} {fp : List Addr} (hfp : ∀ b ∈ fp, FpOk X pins H b ∧ b < sB.heap.objs.size)
    {A : Around} (hA : A.handled = none) (hfr : A.frames = some (genEnv scope (cloFrom X.env.cells scope.names []) sB.heap.objs.size code builtinsNs X.env :: X.stack))
    {s2 : Shared} {m0 : Str → Option Value} (hn : s2.heap.Ns sB.heap.objs.size m0) (hk : ∀ b o, sB.heap.get? b = some o → s2.heap.get? b = some o) (hos : s2.os = sB.os) (hb : AllBare s2.gens) {pn pl : Pins}
    (hp : ∀ p ∈ pn ++ pl, s2.heap.get? p.1 = some p.2 ∧ sB.heap.objs.size < p.1 ∧ ∀ v, p.2.data ≠ .cell v) :
    Inv (gcx X sB H N' (genEnv scope (cloFrom X.env.cells scope.names []) sB.heap.objs.size code builtinsNs X.env) fp A pn) pl (captS cm σ) H s2 := by
  have hfree : ∀ y ∈ scope.names, y.2 = .free → ∃ c, X.env.cells.lookup y.1 = some c := fun y hy e => by
    rcases ok.free y hy e with k | k
    · exact I.ok.has _ (.inl k)
    · exact I.ok.has _ (.inr k)
  have cm1 : ∀ {y c}, (cloFrom X.env.cells scope.names []).lookup y = some c → X.env.cells.lookup y = some c ∧ c < sB.heap.objs.size := fun {y c} hm => by
    rcases cloFrom_mem (PySem.mem_of_lookup hm) with hm | ⟨h1, rfl⟩
    · cases hm
    · obtain ⟨c, hc⟩ := hfree _ h1 rfl
      rw [hc]
      obtain ⟨w, z⟩ := I.cell _ _ hc
      exact ⟨rfl, z.lt⟩
  have look : ∀ {y}, scope.names.lookup y = some .free → ∃ c, (cloFrom X.env.cells scope.names []).lookup y = some c ∧ X.env.cells.lookup y = some c := fun {y} hl => by
    have hy : (y, NameKind.free) ∈ scope.names := PySem.mem_of_lookup hl
    obtain ⟨c', e'⟩ := mem_lookup (cloFrom_has (cells := X.env.cells) (acc := []) hy)
    exact ⟨c', e', (cm1 e').1⟩
  have nstk : ∀ b, sB.heap.objs.size ≤ b → b ∉ frs X.stack := fun b hb z => by
    rcases List.mem_cons.mp (I.stkSub b z) with z | z
    · exact absurd (Nat.lt_of_lt_of_le I.lt (by rw [← z]; exact hb)) (Nat.lt_irrefl _)
    · exact I.nofs hb z
  have okB : (gcx X sB H N' (genEnv scope (cloFrom X.env.cells scope.names []) sB.heap.objs.size code builtinsNs X.env) fp A pn).Ok := by
    refine ⟨I.ok.mod, ok.kind, I.ok.glob, rfl, Nat.le_refl _, fun y z c e1 e2 => I.ok.inj y z c (cm1 e1).1 (cm1 e2).1, fun y hy => ?_, fun y c z e => ?_, fun _ => hA, hfr, .inr ⟨rfl, rfl⟩, fun b hb => ⟨?_, fun y c e z => ?_⟩, I.bs, Nat.le_trans I.ok.bsz I.sz, fun b o e hb => ?_, fun b hb z => ?_, I.stack, I.stkFree⟩
    · rcases hy with hy | hy
      · exact absurd rfl (ok.cell _ (PySem.mem_of_lookup hy))
      · obtain ⟨c, h1, _⟩ := look hy
        exact ⟨c, h1⟩
    · exact absurd (show false = true from z) Bool.false_ne_true
    · exact Nat.ne_of_lt (hfp b hb).2
    · exact (hfp b hb).1.2.2.2.2.1 y c (cm1 e).1 z
    · rcases (hfp b hb).1.2.2.2.1 with z | z
      · exact I.ok.noex b o e z
      · exact absurd (Nat.lt_of_lt_of_le (Heap.lt_size e) (Nat.le_trans I.ok.bsz z)) (Nat.lt_irrefl _)
    · rcases List.mem_cons.mp (I.stkSub b z) with z | z
      · exact (hfp b hb).1.2.1 z
      · exact (hfp b hb).1.2.2.1 z
  refine ⟨okB, hos, hb, Un.kept hk, ⟨m0, hn, fun i y av e1 e2 e3 => ?_⟩, fun y c e => ?_, I.hok.fresh (Nat.le_refl _), fun y c e => I.freeC y c (cm1 e).1, fun p hm => ?_, I.hok.kept hk, by
    show (captS cm σ).length = N'.length
    unfold captS
    rw [List.length_map, ok.len]⟩
  · obtain ⟨j, hj, hs⟩ := captS_some e2
    obtain ⟨hy, hf⟩ := ok.capt hj e1
    obtain ⟨m, hn2, hl⟩ := I.loc
    have hvis : Vis X.env.scope y := (ok.free _ (PySem.mem_of_lookup hf) rfl).elim (fun k => .inr (.inl k)) (fun k => .inr (.inr k))
    obtain ⟨w, r, q⟩ := hl j y av hy hs hvis
    refine ⟨w, r, .inr ⟨.inr hf, ?_⟩⟩
    obtain ⟨c, h1, h2⟩ := look hf
    rcases q with ⟨k, _⟩ | ⟨_, c', e', z⟩
    · have k : X.env.scope.names.lookup y = some .local := k
      rcases ok.free _ (PySem.mem_of_lookup hf) rfl with k' | k' <;> rw [show X.env.scope.names.lookup y = _ from k'] at k <;> cases k
    · rw [h2] at e'; cases e'
      exact ⟨c, h1, z.keeps hk⟩
  · obtain ⟨w, z⟩ := I.cell y c (cm1 e).1
    exact ⟨w, z.keeps hk⟩
  · obtain ⟨h1, h2, h3⟩ := hp p hm
    exact ⟨h1, I.hok.fresh (Nat.le_of_lt h2), Nat.ne_of_gt h2, nstk _ (Nat.le_of_lt h2), h3⟩
end

/-- a code object's table, whatever it holds -/
def TabX (P : Addr) : HO := .ext fun h => ∃ ps : Array Value, h.get? P = some { cls := .none, data := .fields ps } ∧ TriplesOk ps.toList
theorem tabx_ok {prog : Program} {w : World} {H : Hp} {h : Heap} {P : Addr} {ps : Array Value} (e : h.get? P = some { cls := .none, data := .fields ps }) (t : TriplesOk ps.toList) : ObjOk prog w H h P (TabX P) :=
  ⟨⟨ps, e, t⟩, ⟨_, e⟩, fun h1 h2 ⟨qs, e1, t1⟩ k => ⟨qs, k _ e1, t1⟩⟩
theorem upd_id {H : Hp} {a : Addr} {o : HO} (h : H a = some o) : upd H a o = H := by
  funext b
  by_cases e : b = a
  · rw [e, upd_same, h]
  · rw [upd_ne e]
/-- a generator that has not begun -/
def RdG (X : Cx) (pins : Pins) (σ : L2.St) (k : Nat) (Th : List V → V → Hp → Prop) (Qe : List V → Hp → Prop) (u : Value) (s' : Shared) : Prop :=
  ∃ (a : Addr) (g : Nat) (c : Code) (go : Obj) (sB : Shared) (HB : Hp) (N' : List Str) (cenv : Env) (fp : List Addr) (σ0 : L2.St),
    u = .ref a ∧ Inv X pins σ HB sB ∧ ExOk X pins fp ∧ sB.heap.objs.size < a ∧ a < s'.heap.objs.size ∧ (∀ h : Heap, h.get? a = some go → h.IsGen a g) ∧ s'.heap.get? a = some go ∧ s'.gens[g]? = some (.fresh c) ∧ s'.os = sB.os ∧ AllBare s'.gens ∧ (∀ b o, sB.heap.get? b = some o → s'.heap.get? b = some o) ∧
    ∀ (A : Around) (s2 : Shared) (Ss : List Addr) (Gh : List V → Pins → Prop) (pl : Pins), Room (k + 1) A → A.frames = some X.stack → (∀ b ∈ Ss, s'.heap.objs.size ≤ b) → (∀ b o, s'.heap.get? b = some o → s2.heap.get? b = some o) → s2.os = sB.os → AllBare s2.gens → PinsAt Ss pl s2.heap → Gh [] pl →
      Seg (model X.prog X.w) A (GR (gcx X sB HB N' cenv fp (A.deeper cenv) [(a, go)]) ⟨Ss, Gh, Th, Qe⟩ σ0) (GY (gcx X sB HB N' cenv fp (A.deeper cenv) [(a, go)]) ⟨Ss, Gh, Th, Qe⟩ σ0) sizeLine s2 c ((model X.prog X.w).den c) [] s2
abbrev TGx := L2.St → Hp → (List V → V → Hp → Prop) → (List V → Hp → Prop) → Prop
structure PGx (X : Cx) (k : Nat) (e : Expr) (t : TGx) : Prop where
  run : ∀ (pins : Pins) (s : Shared) (σ : L2.St) (H : Hp) (Th : List V → V → Hp → Prop) (Qe : List V → Hp → Prop), Inv X pins σ H s → t σ H Th Qe → wpAny (model X.prog X.w) X.A (eval e X.env) (RdG X pins σ k Th Qe) X.xe s
/-- the reading of a generator expression -/
def tGx (P : Addr) (wi : TI) (g : TG) (tt : TT) (te : TE) (cm : List (Option Nat)) (own : List Nat) : TGx := fun σ H Th Qe => wi σ H fun J H1 => H1 P = some (TabX P) ∧
  ∃ W : Nat → Nat → List V → Hp → Prop, (∃ m, W 0 m [] H1) ∧ Turns J g tt te (captS cm σ) own Th Qe W

theorem pgx_gen {X : Cx} {c P : Addr} {elt iter tg : Expr} {ifs : List Expr} {scope : Scope} {gpos : Pos} {N' : List Str} {cm : List (Option Nat)} {own : List Nat} {wi : TI} {g : TG} {tt : TT} {te : TE} {k k0 : Nat}
    (hr : Room k0 X.A) (TB : GxR.TabB X.base X.mg c P) (hcode : X.env.code = .ref c) (ok : CapOk X.N N' cm scope X.env.scope) (hi : PI X tg iter wi)
    (hg : ∀ (sB : Shared) (HB : Hp) (cl : List (Str × Addr)) (L : Addr) (code : Value) (fp : List Addr) (A : Around) (pn : Pins), Room k A → PG (gcx X sB HB N' (genEnv scope cl L code builtinsNs X.env) fp A pn) tg g)
    (ht : ∀ (sB : Shared) (HB : Hp) (cl : List (Str × Addr)) (L : Addr) (code : Value) (fp : List Addr) (A : Around) (pn : Pins), Room k A → PTs (gcx X sB HB N' (genEnv scope cl L code builtinsNs X.env) fp A pn) ifs tt)
    (he : ∀ (sB : Shared) (HB : Hp) (cl : List (Str × Addr)) (L : Addr) (code : Value) (fp : List Addr) (A : Around) (pn : Pins), Room k A → PE (gcx X sB HB N' (genEnv scope cl L code builtinsNs X.env) fp A pn) elt te)
    (hs : ∀ v, genFold iter X.env v = pure v := by intro _; rfl) : PGx X k (.GeneratorExp elt [⟨tg, iter, ifs, 0⟩] scope gpos) (tGx P wi g tt te cm own) := by
  refine ⟨fun pins s σ H Th Qe I h => ?_⟩
  have hfree : ∀ y ∈ scope.names, y.2 = .free → ∃ c, X.env.cells.lookup y.1 = some c := fun y hy e => by
    rcases ok.free y hy e with k | k
    · exact I.ok.has _ (.inl k)
    · exact I.ok.has _ (.inr k)
  refine wpAny_GeneratorExp_make ok.co (closure_ok hfree) ok.cell ok.dot ok.kind (by have := hr.dp; omega) ?_ hs
  refine thn (hi.run pins s σ H _ I h) fun xv s1 h1 => thn h1 fun itv s2 h2 => ?_
  obtain ⟨it, fp, tn, J, H2, rfl, I2, T, st2, f2, hP, W, ⟨m0, w0⟩, tr⟩ := h2
  obtain ⟨⟨ps, hPs, ht3⟩, _, _⟩ := I2.hok P _ hP
  have cd : PySem.W.CodeHd s2.heap c P := TB.code.keeps fun b u e => I2.bk b u e
  have fpP : ∀ b ∈ fp, b ≠ P := fun b hb z => by
    have q := (f2 b hb).1
    rw [z, hP] at q; cases q
  have fplt : ∀ b ∈ fp, b < s2.heap.objs.size := fun b hb => let ⟨o, e, _⟩ := T.obj _ _ st2 b hb; Heap.lt_size e
  have cont : ∀ (code : Value) (h3 : Heap) (tk : Nat) (ps' : Array Value), Heap.ExtBut P s2.heap h3 → s2.heap.objs.size ≤ h3.objs.size → h3.get? P = some { cls := .none, data := .fields ps' } → (∃ more, ps' = ps ++ more) → TriplesOk ps'.toList →
      wpAny (model X.prog X.w) X.A (builtinsFor X.env.globals X.env.builtins) (fun bi s₄ =>
        ∀ h', h'.Ns s₄.heap.objs.size (fun y => if y = ".0" then some (.ref it) else none) → Heap.SameBut s₄.heap.objs.size (s₄.heap.push { cls := .type "frame", data := .dict #[] }) h' →
          RdG X pins σ k Th Qe (.ref h'.objs.size) { s₄ with
            gens := s₄.gens.push (.fresh (.compStart (.GeneratorExp elt [⟨tg, iter, ifs, 0⟩] scope gpos) 0 (.ref it) .none (genEnv scope (cloFrom X.env.cells scope.names []) s₄.heap.objs.size code bi X.env))),
            toks := s₄.toks + 1 + 1 + 1,
            heap := h'.push { cls := .type "generator", data := .fields #[.int s₄.gens.size 0, .str "<genexpr>" (s₄.toks + 1), .str (X.env.qual ++ "<genexpr>") (s₄.toks + 1 + 1)] } }) X.xe { s2 with heap := h3, toks := tk } := by
    intro code h3 tk ps' hx hsz hP3 hmore ht4
    obtain ⟨bm, ob, e1, e2, e3, e4, e5, e6, e7, e8⟩ := TB.bm
    refine wpAny_builtinsFor (m := X.mg) (by rw [I2.ok.glob]; exact (I2.mod.glob.keeps I2.bk).extBut hx TB.gP) e1 e2 (hx _ _ e4 (I2.bk _ _ e5)) e6 e7 e8 ?_
    intro h' hn' hs'
    obtain ⟨more, em⟩ := hmore
    subst em
    have J3 : Inv X pins σ H2 { s2 with heap := h3, toks := tk } := by
      have q := I2.write (x := P) (e := P) (o := TabX P) (h' := h3) (t' := tk) (by rw [hP]; trivial) (.inl rfl) (fun b u hb hu => hx b u hb hu) ⟨_, hP3⟩ (tabx_ok hP3 ht4)
      rw [upd_id hP] at q
      exact q
    generalize hgo : ({ cls := .type "generator", data := .fields #[.int s2.gens.size 0, .str "<genexpr>" (tk + 1), .str (X.env.qual ++ "<genexpr>") (tk + 1 + 1)] } : Obj) = go
    have hsz' : h'.objs.size = h3.objs.size + 1 := by
      have q := hs'.1
      rw [q, Heap.size_push]
    have keep' : ∀ b o, h3.get? b = some o → h'.get? b = some o := fun b o e => hs'.extBut b o (Nat.ne_of_lt (Heap.lt_size e)) (Heap.get?_push_of_some _ e)
    have goat : (h'.push go).get? h'.objs.size = some go := by
      subst hgo
      exact Heap.get?_push_size _ rfl
    have fp3 := f2
    refine ⟨h'.objs.size, s2.gens.size, _, go, { s2 with heap := h3, toks := tk }, H2, N', genEnv scope (cloFrom X.env.cells scope.names []) h3.objs.size code builtinsNs X.env, fp, captS cm σ, rfl, J3, fun b hb => ⟨(f2 b hb).2.2.2.1, (f2 b hb).2.1, (f2 b hb).2.2.2.2.1, (f2 b hb).2.2.2.2.2⟩, ?_, ?_, fun h e => ?_, goat, Array.getElem?_push_size .., rfl, ?_, fun b o e => ?_, fun A s2' Ss Gh pl hrA hfr hSs hk2 hos2 hb2 hpl hgh => ?_⟩
    · show h3.objs.size < h'.objs.size
      omega
    · show h'.objs.size < (h'.push _).objs.size
      rw [Heap.size_push]; exact Nat.lt_succ_self _
    · subst hgo
      exact ⟨_, _, _, e, rfl, rfl, rfl⟩
    · exact AllBare.push I2.bare rfl
    · exact Heap.get?_push_of_some _ (keep' b o e)
    · have keep2 : ∀ b o, h3.get? b = some o → s2'.heap.get? b = some o := fun b o e => hk2 b o (Heap.get?_push_of_some _ (keep' b o e))
      have hpins : ∀ p ∈ [(h'.objs.size, go)] ++ pl, s2'.heap.get? p.1 = some p.2 ∧ h3.objs.size < p.1 ∧ ∀ v, p.2.data ≠ .cell v := fun p hp => by
        rcases List.mem_append.mp hp with hp | hp
        · rw [List.mem_singleton.mp hp]
          refine ⟨hk2 h'.objs.size go ?_, by show h3.objs.size < h'.objs.size; omega, fun v q => by subst hgo; cases q⟩
          exact goat
        · have hS : p.1 ∈ Ss := by rw [← hpl.ad]; exact List.mem_map.mpr ⟨p, hp, rfl⟩
          have q := hSs _ hS
          have q2 : (h'.push go).objs.size ≤ p.1 := by subst hgo; exact q
          rw [Heap.size_push] at q2
          refine ⟨(hpl.at_ p hp).1, ?_, (hpl.at_ p hp).2⟩
          have q3 : h'.objs.size < p.1 := Nat.lt_of_succ_le q2
          rw [hsz'] at q3
          exact Nat.lt_of_succ_lt q3
      have IG := gen_start (code := code) (cm := cm) (N' := N') (fp := fp) J3 ok (fun b hb => ⟨fp3 b hb, Nat.lt_of_lt_of_le (fplt b hb) hsz⟩) (A := A.deeper (genEnv scope (cloFrom X.env.cells scope.names []) h3.objs.size code builtinsNs X.env)) hrA.hd
        (by show A.frames.map _ = _; rw [hfr]; rfl) (s2 := s2') (m0 := fun y => if y = ".0" then some (.ref it) else none) ((hn'.push _).keeps hk2) keep2 hos2 hb2 hpins
      have hSlt : ∀ b ∈ Ss, h'.objs.size < b := fun b hb => by
        have q := hSs b hb
        have q2 : (h'.push go).objs.size ≤ b := by subst hgo; exact q
        rw [Heap.size_push] at q2
        exact Nat.lt_of_succ_le q2
      have hrD := hrA.deeper (genEnv scope (cloFrom X.env.cells scope.names []) h3.objs.size code builtinsNs X.env)
      have cmL : ∀ {y c}, (cloFrom X.env.cells scope.names []).lookup y = some c → X.env.cells.lookup y = some c := fun {y c} hm => by
        rcases cloFrom_mem (PySem.mem_of_lookup hm) with hm | ⟨h1, rfl⟩
        · cases hm
        · obtain ⟨c, hc⟩ := hfree _ h1 rfl
          rw [hc] <;> rfl
      refine seg_start (G := gcx X { s2 with heap := h3, toks := tk } H2 N' (genEnv scope (cloFrom X.env.cells scope.names []) h3.objs.size code builtinsNs X.env) fp (A.deeper (genEnv scope (cloFrom X.env.cells scope.names []) h3.objs.size code builtinsNs X.env)) [(h'.objs.size, go)]) (C := ⟨Ss, Gh, Th, Qe⟩) (own := own) (W := W) rfl rfl rfl rfl ok.co T (hg _ _ _ _ _ _ _ _ hrD) (ht _ _ _ _ _ _ _ _ hrD) (he _ _ _ _ _ _ _ _ hrD) (fun p hp z => ?_) (fun b hb => ⟨?_, ?_, fun x c e z => ?_⟩) (fun b hb => ⟨?_, ?_, .inl hb, fun x c e => ?_, fun p hp => ?_, fun z => ?_⟩) tr w0 hpl hgh IG (T.keep _ _ _ st2 fun b hb o e => ?_) (fun b hb => (fp3 b hb).1) (fun _ _ => rfl)
      · rw [List.mem_singleton.mp hp] at z
        exact Nat.lt_irrefl _ (hSlt _ z)
      · exact Nat.le_of_lt (Nat.lt_of_le_of_lt (by omega : h3.objs.size ≤ h'.objs.size) (hSlt b hb))
      · exact Nat.ne_of_gt (Nat.lt_of_le_of_lt (by omega : h3.objs.size ≤ h'.objs.size) (hSlt b hb))
      · obtain ⟨w, q⟩ := I2.cell x c (cmL e)
        have q1 := q.lt
        rw [z] at q1
        exact Nat.lt_irrefl _ (Nat.lt_trans (Nat.lt_of_lt_of_le q1 hsz) (Nat.lt_of_le_of_lt (by omega : h3.objs.size ≤ h'.objs.size) (hSlt b hb)))
      · exact Nat.ne_of_lt (Nat.lt_of_lt_of_le (fplt b hb) hsz)
      · intro z
        rcases List.mem_cons.mp (J3.stkSub b z) with z | z
        · exact (fp3 b hb).2.1 z
        · exact (fp3 b hb).2.2.1 z
      · exact (f2 b hb).2.2.2.2.1 x c (cmL e)
      · rw [List.mem_singleton.mp hp]
        exact Nat.ne_of_gt (Nat.lt_of_lt_of_le (fplt b hb) (by omega : s2.heap.objs.size ≤ h'.objs.size))
      · exact Nat.lt_irrefl _ (Nat.lt_trans (Nat.lt_of_lt_of_le (fplt b hb) (by omega : s2.heap.objs.size ≤ h'.objs.size)) (hSlt b z))
      · exact keep2 b o (hx b o (fpP b hb) e)
  refine ⟨I2.nolimit, ?_⟩
  cases hf : codeAmong gpos ps.toList with
  | none =>
    refine wpAny_genexprCodeX hcode (cd.code hPs ht3) (cd.tab hPs) hf fun c' h' tk hx hge hlt hco' _ htab' _ => ?_
    obtain ⟨o1, vs, f1, tf, fl, tg, inF, tx, tt, op, _, _, _, _, _, _, _, _, _, htr, _⟩ := hco'
    exact cont _ h' tk _ hx (Nat.le_trans hge (Nat.le_of_lt hlt)) htab'.2 ⟨_, rfl⟩ htr
  | some cv =>
    refine wpAny_genexprCode_hit hcode (cd.code hPs ht3) hf ?_
    exact cont cv s2.heap s2.toks ps (Heap.ExtBut.refl _ _) (Nat.le_refl _) hPs ⟨#[], by simp⟩ ht3
end GX
set_option Elab.async false
set_option linter.all false
set_option maxRecDepth 100000
set_option maxHeartbeats 4000000
namespace GX
open PySem PySem.Spec PyProof.Rows L2 GenW

/-- the generator g sleeps (or has not begun), n items at most are to come -/
def Susp (G : Cx) (C : Cons) (σ0 : L2.St) (A : Around) (g n : Nat) (s : Shared) : Prop :=
  ∃ gs, s.gens[g]? = some gs ∧ gs.Goes (model G.prog G.w) A.in1 (GR G C σ0) (GY G C σ0) n (.send .none) (s.setGen g .running)

section
variable {G : Cx} {C : Cons} {σ0 : L2.St} {A : Around} {a : Addr} {g n : Nat} {go : Obj} {s : Shared} {E : Value → Shared → Prop} {Q : Option Value → Shared → Prop}
theorem gx_next (hh : A.handled = none) (hd : A.depth < recursionLimit) (hl : s.heap.NoLimit) (hg : s.heap.IsGen a g) (hS : Susp G C σ0 A g n s)
    (hY : ∀ ys x v pl H s1, n - 1 + 1 + ys.length = sizeLine → RelV x v → PinsAt C.Ss pl s1.heap → C.Gh ys pl → Inv G pl σ0 H s1 → C.Th ys x H → (∀ b ∈ C.Ss, s1.heap.get? b = s.heap.get? b) →
      (∀ s' pl', Sleeps C.Ss s1 s' → s'.gens = s1.gens → PinsAt C.Ss pl' s'.heap → C.Gh (ys ++ [x]) pl' → ∃ m, n = m + 1 ∧ Susp G C σ0 A g m s') → Q (some v) s1)
    (hP : ∀ s1, GP G C σ0 s s1 → Q none s1) : wpAny (model G.prog G.w) A (pyNext (.ref a)) Q E s := by
  obtain ⟨gs, hgs, hgo⟩ := hS
  have hgl : g < s.gens.size := (Array.getElem?_eq_some_iff.mp hgs).1
  refine wpAny_gsz (n := g + 1) hgl ?_
  refine wpAny_pyNext_genexpQ (P := fun n s₀ s₁ => GP G C σ0 s₀ s₁) hh hl hd hg hgs hgo (fun v s₁ gs' hbare hv hsz => ?_) (fun s₁ hp h' hk hsz => ?_)
  · obtain ⟨ys, x, pl, H, h1, h2, h3, h4, h5, h6, h8, h7⟩ := hv
    have hsz1 : g < s₁.gens.size := by
      have q : (s₁.setGen g gs').gens.size = s₁.gens.size := setGen_size _ _ _
      have hsz' : g + 1 ≤ (s₁.setGen g gs').gens.size := hsz
      omega
    refine hY ys x v pl H _ h1 h2 h3 h4 (inv_gens h5 hbare) h6 h8 fun s' pl' hsl hge hpl' hgh' => ?_
    have hsl2 : Sleeps C.Ss s₁ (s'.setGen g .running) := ⟨hsl.os, allBare_setGen hsl.bare rfl, hsl.keep⟩
    have q := h7 (s'.setGen g .running) pl' hsl2 hpl' hgh'
    cases n with
    | zero => exact False.elim q
    | succ m =>
      refine ⟨m, rfl, gs', ?_, q⟩
      rw [hge]
      exact setGen_at hsz1
  · obtain ⟨ys, pl, H, h1, h2, h3, h4, h5, h6⟩ := hp
    have hp2 : PinsAt C.Ss pl h' := ⟨h2.ad, fun p hp => ⟨hk _ _ (h2.at_ p hp).1, (h2.at_ p hp).2⟩⟩
    have I1 := inv_gens (g := g) (x := .finished) h4 rfl
    exact hP _ ⟨ys, pl, H, h1, hp2, h3, I1.kept (t' := s₁.toks) hk, h5, fun b hb => (h2.same hp2 b hb).trans (h6 b hb)⟩
end

/-- a generator just made, now drained: at its first resumption -/
theorem susp_of {X : Cx} {A : Around} {C : Cons} {sB : Shared} {HB : Hp} {N' : List Str} {cenv : Env} {fp : List Addr} {σ0 : L2.St} {a g : Nat} {go : Obj} {c : Code} {s2 : Shared} (hgs : s2.gens[g]? = some (.fresh c))
    (h : Seg (model X.prog X.w) A.in1 (GR (gcx X sB HB N' cenv fp (A.in1.deeper cenv) [(a, go)]) C σ0) (GY (gcx X sB HB N' cenv fp (A.in1.deeper cenv) [(a, go)]) C σ0) sizeLine (s2.setGen g .running) c ((model X.prog X.w).den c) [] (s2.setGen g .running)) :
    Susp (gcx X sB HB N' cenv fp (A.in1.deeper cenv) [(a, go)]) C σ0 A g sizeLine s2 := ⟨_, hgs, rfl, h⟩

section
variable {X : Cx} {pins : Pins} {σ : L2.St} {HB H : Hp} {sB s' : Shared} {N' : List Str} {cenv : Env} {fp : List Addr} {σ0 : L2.St} {A : Around} {pn pl : Pins}
/-- back outside -/
theorem inv_back (I : Inv X pins σ HB sB) (hex : ExOk X pins fp) (J : Inv (gcx X sB HB N' cenv fp A pn) pl σ0 H s') : Inv X pins σ H s' :=
  I.call' (ch := fp) J.os J.base J.hok J.bare hex
end

/-! ### list.extend's loop -/
def GhL (S : Addr) : List V → Pins → Prop := fun ys pl => ∃ (acc : Array Value) (c : Nat), pl = [(S, lstObj acc c)] ∧ Vals ys acc.toList
theorem ghl_at {S : Addr} {ys : List V} {pl : Pins} {h : Heap} (g : GhL S ys pl) (p : PinsAt [S] pl h) : ∃ (acc : Array Value) (c : Nat), h.get? S = some (lstObj acc c) ∧ Vals ys acc.toList := by
  obtain ⟨acc, c, rfl, r⟩ := g
  exact ⟨acc, c, (p.at_ _ (List.mem_singleton.mpr rfl)).1, r⟩
theorem drainL {G : Cx} {Th : List V → V → Hp → Prop} {Qe : List V → Hp → Prop} {σ0 : L2.St} {A : Around} {a S : Addr} {g : Nat} {go : Obj} {res : Value} {R : Result → Shared → Prop} (hh : A.handled = none) (hd : A.depth < recursionLimit) (hpa : (a, go) ∈ G.pn) (hgo : ∀ h : Heap, h.get? a = some go → h.IsGen a g)
    (hSa : S ≠ a) (hSc : S ≠ cStatics)
    (hend : ∀ s' ys acc c pl H, ys.length ≤ sizeLine → s'.heap.get? S = some (lstObj acc c) → Vals ys acc.toList → Inv G pl σ0 H s' → H S = none → Qe ys H → R (.ok (.ret res)) s') :
    ∀ (n : Nat) (s : Shared), s.heap.NoLimit → s.heap.IsGen a g → Susp G ⟨[S], GhL S, Th, Qe⟩ σ0 A.in1 g n s → codeAny (model G.prog G.w) A (.builtin "list.extend.loop" ⟨[.ref S, .ref a, res], []⟩) R s := by
  intro n
  induction n using Nat.strongRecOn with
  | ind n ih =>
    intro s hl hg hS
    refine codeAny_builtin F.entry_extend_loop ?_
    rw [Around.under_plainId F.plain_extend_loop _]
    show wpAny _ A.in1 (pyNext (.ref a) >>= _) _ _ s
    refine wpAny_bind (gx_next (A := A.in1) hh hd hl hg hS (fun ys x v pl H s1 h1 h2 h3 h4 h5 h6 _ h7 => ?_) fun s1 hp => ?_)
    · obtain ⟨acc, c, hS1, hv⟩ := ghl_at h4 h3
      have hlen : acc.toList.length = ys.length := hv.length.symm
      have hacc : acc.size < sizeLine := by
        have e : acc.toList.length = acc.size := by simp
        omega
      show wpAny _ A.in1 (updateSeq S (·.push v) >>= _) _ _ _
      refine wpAny_bind ?_
      refine wpAny_updateSeq hS1 rfl (wpAny_pure ⟨plainId_quiet F.plain_extend_loop _, ?_⟩) (Nat.le_of_lt hacc) (by show (acc.push v).size ≤ sizeLine + 1; rw [Array.size_push]; omega)
      have keep3 : ∀ b o, b ≠ S → s1.heap.get? b = some o → (s1.heap.update S (Obj.mapSeq (·.push v))).get? b = some o := fun b o hbS e => (Heap.get?_update_other _ _ (Ne.symm hbS)).trans e
      have hSn : ∃ c', (s1.heap.update S (Obj.mapSeq (·.push v))).get? S = some (lstObj (acc.push v) c') := ⟨_, Heap.get?_update_self _ hS1 rfl⟩
      obtain ⟨c', hSn⟩ := hSn
      obtain ⟨m, hm, hS2⟩ := h7 { s1 with heap := s1.heap.update S (Obj.mapSeq (·.push v)) } [(S, lstObj (acc.push v) c')] ⟨rfl, h5.bare, fun b o hb e => keep3 b o (fun z => hb (by rw [z]; exact List.mem_singleton.mpr rfl)) e⟩ rfl
        ⟨rfl, fun p hp => by rw [List.mem_singleton.mp hp]; exact ⟨hSn, fun v q => by cases q⟩⟩ ⟨_, _, rfl, by rw [Array.toList_push]; exact hv.append (.cons h2 .nil)⟩
      refine ih m (by omega) _ ?_ ?_ hS2
      · obtain ⟨mc, hns, hnn⟩ := h5.nolimit
        exact ⟨mc, hns.at' fun o e => keep3 _ o (Ne.symm hSc) e, hnn⟩
      · exact hgo _ (keep3 a go (Ne.symm hSa) (h5.pin (a, go) (List.mem_append_left _ hpa)).1)
    · obtain ⟨ys, pl, H, q1, q2, q3, q4, q5, _⟩ := hp
      obtain ⟨acc, c, hS1, hv⟩ := ghl_at q3 q2
      have hn : H S = none := by
        obtain ⟨acc', c', e, _⟩ := q3
        exact (q4.pin (S, lstObj acc' c') (List.mem_append_right _ (by rw [e]; exact List.mem_singleton.mpr rfl))).2.1
      exact wpAny_pure (hend _ ys acc c pl H q1 hS1 hv q4 hn q5)

/-- collect(g): the items in a list at S, untracked -/
theorem collect_gx {X : Cx} {pins : Pins} {σ : L2.St} {k : Nat} {Th : List V → V → Hp → Prop} {Qe : List V → Hp → Prop} {u : Value} {s : Shared} {A : Around} {Q : List Value → Shared → Prop} {E : Value → Shared → Prop} (hr : Room (k + 4) A) (hfr : A.frames = some X.stack)
    (hTh : ∀ ys x H, Th ys x H) (h : RdG X pins σ k Th Qe u s) (hQ : ∀ s' its ys H, ys.length ≤ sizeLine → Vals ys its → Inv X pins σ H s' → Qe ys H → Q its s') : wpAny (model X.prog X.w) A (collect u) Q E s := by
  obtain ⟨a, g, c, go, sB, HB, N', cenv, fp, σ0, rfl, I, hex, ha1, ha2, hgo, hat, hgs, hos, hb, hkp, run⟩ := h
  have hsB : sB.heap.NoLimit := I.nolimit
  have hcl : cStatics < sB.heap.objs.size := let ⟨_, hn, _⟩ := hsB; hn.lt
  have hlim : s.heap.NoLimit := hsB.keeps hkp
  have hSa : s.heap.objs.size ≠ a := Nat.ne_of_gt ha2
  have hSc : s.heap.objs.size ≠ cStatics := Nat.ne_of_gt (Nat.lt_trans hcl (Nat.lt_trans ha1 ha2))
  unfold collect
  refine wpAny_bind (wpAny_runValue (codeAny_builtin F.entry_proto_collect ?_))
  rw [Around.under_plainId F.plain_proto_collect _]
  show wpAny _ A.in1 (newList [] >>= fun l => again (.builtin "list.__iadd__" ⟨[l, .ref a], []⟩)) _ _ s
  refine wpAny_bind (wpAny_newObj_type ?_)
  refine wpAny_pure ⟨plainId_quiet F.plain_list_iadd _, codeAny_builtin F.entry_list_iadd ?_⟩
  rw [Around.under_plainId F.plain_list_iadd _]
  have hS₁ : (s.heap.push { cls := .type "list", data := .seq ([] : List Value).toArray }).get? s.heap.objs.size = some { cls := .type "list", data := .seq ([] : List Value).toArray } := Heap.get?_push_size _ rfl
  have k1 : ∀ b o, s.heap.get? b = some o → (s.heap.push { cls := .type "list", data := .seq ([] : List Value).toArray }).get? b = some o := fun b o e => Heap.get?_push_of_some _ e
  have gty : (s.heap.push { cls := .type "list", data := .seq ([] : List Value).toArray }).IsGen a g := hgo _ (k1 _ _ hat)
  show wpAny _ A.in1 (Builtin.List.listExtendWith (.ref s.heap.objs.size) (.ref a) (.ref s.heap.objs.size)) _ _ _
  unfold Builtin.List.listExtendWith
  refine wpAny_bind (wpAny_typeOf (Heap.IsGen.typeIs (s := { s with heap := _ }) gty) ?_)
  have h1 : Builtin.List.listSameRef (.ref s.heap.objs.size) (.ref a) = false := by simp [Builtin.List.listSameRef, hSa]
  have h2 : (Value.type "generator" == Value.type "list") = false := by decide
  have h3 : (Value.type "generator" == Value.type "tuple") = false := by decide
  simp only [h1, h2, h3, Bool.or_false, Bool.false_eq_true, if_false]
  refine wpAny_bind (wpAny_pyIter_gen (s := { s with heap := _ }) gty ?_)
  refine wpAny_bind (wpAny_holding ?_)
  unfold Builtin.List.listLengthHint
  refine wpAny_bind (wpAny_specialOf (Heap.IsGen.typeIs (s := { s with heap := _ }) gty) F.gen_no_len ?_)
  show wpAny _ A.in1 (specialOf (Value.ref a) (Str.ofString "__length_hint__") >>= _) _ _ _
  refine wpAny_bind (wpAny_specialOf (Heap.IsGen.typeIs (s := { s with heap := _ }) gty) F.gen_no_hint ?_)
  refine wpAny_pure ?_
  show wpAny _ A.in1 (rule "list.extend.makes-room" >>= fun _ => Builtin.List.listTouch (.ref s.heap.objs.size) >>= fun _ =>
    again (.builtin "list.extend.loop" ⟨[.ref s.heap.objs.size, .ref a, .ref s.heap.objs.size], []⟩)) _ _ _
  refine wpAny_bind (wpAny_rule ?_)
  refine wpAny_bind ?_
  show wpAny _ A.in1 (updateSeq s.heap.objs.size (·.push .none) >>= fun _ => updateSeq s.heap.objs.size (·.pop)) _ _ _
  refine wpAny_bind (wpAny_updateSeq hS₁ rfl ?_)
  have hS3 := Heap.get?_update_self (Obj.mapSeq (·.push Value.none)) hS₁ rfl
  refine wpAny_updateSeq (hz := by seq_fits) hS3 rfl ?_
  have hS4 := Heap.get?_update_self (Obj.mapSeq (·.pop)) hS3 rfl
  have up : ∀ (h : Heap) (f : Obj → Obj), (∀ b o, s.heap.get? b = some o → h.get? b = some o) → ∀ b o, s.heap.get? b = some o → (h.update s.heap.objs.size f).get? b = some o := fun h f q b o e =>
    (Heap.get?_update_other _ _ (Ne.symm (Nat.ne_of_lt (Heap.lt_size e)))).trans (q b o e)
  have k4 := up _ (Obj.mapSeq (·.pop)) (up _ (Obj.mapSeq (·.push Value.none)) k1)
  refine wpAny_pure ⟨plainId_quiet F.plain_extend_loop _, ?_⟩
  have hroom : Room (k + 1) A.in1.in1 := ⟨hr.hd, by have := hr.dp; show A.depth + 3 * (k + 1) + 5 < _; omega, by have := hr.un; show A.units + 1 + 1 + 16 * (k + 1) + 200 < _; omega⟩
  refine drainL (G := gcx X sB HB N' cenv fp (A.in1.in1.deeper cenv) [(a, go)]) (Th := Th) (Qe := Qe) (σ0 := σ0) (go := go) hr.hd (by have := hr.dp; show A.depth < _; omega) (List.mem_singleton.mpr rfl) hgo hSa hSc
    (fun s' ys acc c pl H q1 q2 q3 q4 q5 q6 => ?_) sizeLine _ (hlim.keeps k4) (hgo _ (k4 _ _ hat)) (susp_of hgs (run A.in1.in1 _ [s.heap.objs.size] (GhL s.heap.objs.size) _ hroom hfr (fun b hb => by rw [List.mem_singleton.mp hb]; exact Nat.le_refl _) k4 hos (allBare_setGen (s := { s with heap := _ }) hb rfl)
      ⟨rfl, fun p hp => by rw [List.mem_singleton.mp hp]; exact ⟨hS4, fun v q => by cases q⟩⟩ ⟨#[], _, rfl, .nil⟩))
  show wpAny _ A (load s.heap.objs.size >>= _) _ _ s'
  refine wpAny_bind (wpAny_load q2 ?_)
  exact wpAny_pure (hQ s' acc.toList ys H q1 q3 (inv_back I hex q4) q6)
end GX
set_option Elab.async false
set_option linter.all false
set_option maxRecDepth 100000
set_option maxHeartbeats 4000000
namespace GX
open PySem PySem.Spec PyProof.Rows L2 GenW

theorem boot_sorted' : bootBuiltins "sorted" = some (.builtin "sorted") := by decide +kernel
theorem boot_sum' : bootBuiltins "sum" = some (.builtin "sum") := by decide +kernel
theorem boot_any' : bootBuiltins "any" = some (.builtin "any") := by decide +kernel
theorem boot_all' : bootBuiltins "all" = some (.builtin "all") := by decide +kernel

section
variable {X : Cx} {pins : Pins} {σ : L2.St} {H : Hp} {s : Shared}
theorem inv_A (I : Inv X pins σ H s) {A' : Around} (h1 : A'.handled = X.A.handled) (h2 : A'.frames = X.A.frames) : Inv { X with A := A' } pins σ H s :=
  ⟨⟨I.ok.mod, I.ok.kind, I.ok.glob, I.ok.blt, I.ok.above, I.ok.inj, I.ok.has, I.ok.cab, fun c => h1.trans (I.ok.hd c), h2.trans I.ok.frames, I.ok.stk, I.ok.exf, I.ok.bs, I.ok.bsz, I.ok.noex, I.ok.exfs, I.ok.funs, I.ok.frf⟩, I.os, I.bare, I.base, I.loc, I.cell, I.free, I.freeC, I.pin, I.hok, I.len⟩
theorem inv_A' {A' : Around} (I : Inv { X with A := A' } pins σ H s) (h1 : X.A.handled = A'.handled) (h2 : X.A.frames = A'.frames) : Inv X pins σ H s := inv_A (X := { X with A := A' }) I h1 h2
end

section
variable {X : Cx} {p pos : Pos} {e : Expr} {tg : TGx} {k : Nat}
/-- sorted(g): r is list.sort's rule -/
def tSortedG (tg : TGx) (r : V → List V → Hp → VK → Prop) : TE := fun σ H Q => tg σ H (fun _ _ _ => True) fun ys H1 => ∀ l, H1 l = none → r (.ref l) [] (upd H1 l (.lst ys)) fun _ H2 => Q (.ref l) H2
theorem pe_sortedG {r : V → List V → Hp → VK → Prop} (h : PGx X k e tg) (hs : ∀ A', MtR { X with A := A' } "list.sort" r) (hr : Room (k + 5) X.A) (hg : Gl X "sorted") (hm : X.mg "sorted" = none)
    (he : starEach [e] X.env = (false, eval e X.env) :: starEach [] X.env := by rfl) : PE X (.Call (.Name "sorted" p) [e] [] pos) (tSortedG tg r) := by
  refine ⟨fun pins s σ H Q I hq => ?_⟩
  refine wpAny_Call_Name_kw (ld_blt I hg hm boot_sorted' ?_)
  refine PyProof.Rows.callWith_builtin1 ?_ he (by rfl)
  rw [he]
  show wpAny _ _ (spliced ((false, eval e X.env) :: backTo pos (starEach [] X.env))) _ _ s
  refine Calls.spliced_cons (thn (h.run pins s σ H _ _ I hq) fun u s1 hG => ?_)
  refine Calls.spliced_nil ?_
  refine Calls.call_function_entry kind_sorted plain_sorted entry_sorted (args_sorted1 _) ?_
  unfold Builtin.«sorted»
  refine wpAny_bind (m := checkCount "sorted" 1 1 _) (wpAny_pure ?_)
  have hr1 : Room (k + 4) X.A.in1 := ⟨hr.hd, by have := hr.dp; show X.A.depth + 3 * (k + 4) + 5 < _; omega, by have := hr.un; show X.A.units + 1 + 16 * (k + 4) + 200 < _; omega⟩
  refine wpAny_bind (collect_gx (pins := pins) (σ := σ) hr1 I.ok.frames (fun _ _ _ => trivial) hG fun s' its ys H1 hlen hv I1 hq1 => ?_)
  have hil : its.length ≤ sizeLine := by rw [← hv.length]; exact hlen
  refine wpAny_bind (wpAny_newList ?_ hil)
  have fresh : H1 s'.heap.objs.size = none := I1.hok.fresh (Nat.le_refl _)
  have I2 : Inv X pins σ (upd H1 s'.heap.objs.size (.lst ys)) { s' with heap := s'.heap.push (seqObj "list" its.toArray 0) } :=
    I1.laid (t' := s'.toks) (fun _ _ e => Heap.get?_push_of_some _ e) (Nat.le_refl _) ⟨hlen, its, 0, hv, Heap.get?_push_size _ rfl⟩
  refine wpAny_bind (wpAny_holding ?_)
  refine wpAny_mono (hs X.A.in1 pins _ σ _ (.ref s'.heap.objs.size) [] (.ref s'.heap.objs.size) [] _ (inv_A (A' := X.A.in1) I2 rfl rfl) rfl .nil (hq1 _ fresh)) (fun v s3 h3 => ?_) fun _ _ e => e
  obtain ⟨v', H3, I3, r3, q3⟩ := h3
  exact wpAny_pure ⟨_, rfl, .ref s'.heap.objs.size, H3, inv_A' I3 rfl rfl, rfl, q3⟩

/-! ### sum -/
def vsum : List V → Int
  | [] => 0
  | .int i :: r => i + vsum r
  | _ :: r => vsum r
theorem vsum_append (xs ys : List V) : vsum (xs ++ ys) = vsum xs + vsum ys := by
  induction xs with
  | nil => simp [vsum]
  | cons v r ih =>
    cases v <;> simp [vsum, ih] <;> omega
theorem vsum_ints (is : List Int) : vsum (is.map V.int) = is.sum := by
  induction is with
  | nil => rfl
  | cons i r ih => simp [vsum, ih]
def GhS (S : Addr) : List V → Pins → Prop := fun ys pl => ∃ (t : Tok) (c : Nat), pl = [(S, lstObj #[.int (vsum ys) t] c)]
def ThS : List V → V → Hp → Prop := fun ys x _ => ∃ j, x = .int j ∧ InLong j ∧ InLong (vsum ys + j)
theorem drainS {G : Cx} {Qe : List V → Hp → Prop} {σ0 : L2.St} {A : Around} {a S : Addr} {g : Nat} {go : Obj} {R : Result → Shared → Prop} (hh : A.handled = none) (hd : A.depth < recursionLimit) (hpa : (a, go) ∈ G.pn) (hgo : ∀ h : Heap, h.get? a = some go → h.IsGen a g)
    (hSa : S ≠ a) (hSc : S ≠ cStatics)
    (hend : ∀ s' ys t pl H, Inv G pl σ0 H s' → Qe ys H → R (.ok (.ret (.int (vsum ys) t))) s') :
    ∀ (n : Nat) (s : Shared) (z : Int) (t : Tok) (c : Nat), s.heap.NoLimit → s.heap.IsGen a g → s.heap.get? S = some (lstObj #[.int z t] c) → Susp G ⟨[S], GhS S, ThS, Qe⟩ σ0 A.in1 g n s → codeAny (model G.prog G.w) A (.builtin "sum.loop" ⟨[.ref a, .ref S, rawInt 0, rawInt 0], []⟩) R s := by
  intro n
  induction n using Nat.strongRecOn with
  | ind n ih =>
    intro s z t c hl hg hS0 hS
    refine codeAny_builtin F.entry_sum_loop ?_
    rw [Around.under_plainId F.plain_sum_loop _]
    show wpAny _ A.in1 (seqItems? (.ref S) >>= _) _ _ s
    refine wpAny_bind (wpAny_seqItems hS0 rfl ?_)
    show wpAny _ A.in1 (tryCatch (pyNext (.ref a)) _ >>= _) _ _ s
    have hS0' := hS0
    refine wpAny_bind (wpAny_tryCatch ?_)
    refine gx_next (A := A.in1) hh hd hl hg hS (fun ys x v pl H s1 h1 h2 h3 h4 h5 h6 h8 h7 => ?_) fun s1 hp => ?_
    · obtain ⟨t', c', rfl⟩ := h4
      have e1 : s1.heap.get? S = some (lstObj #[.int (vsum ys) t'] c') := (h3.at_ _ (List.mem_singleton.mpr rfl)).1
      have e2 := e1.symm.trans ((h8 S (List.mem_singleton.mpr rfl)).trans hS0)
      obtain ⟨j, rfl, ⟨f1, f2⟩, f3, f4⟩ := h6
      obtain ⟨tv, rfl⟩ := (show ∃ t, v = Value.int j t from h2)
      have ez : z = vsum ys := by
        have e3 : (#[Value.int (vsum ys) t'] : Array Value) = #[.int z t] := by
          have := congrArg Obj.data (Option.some.inj e2)
          injection this
        have e4 := congrArg Array.toList e3
        simp only [List.cons.injEq, Value.int.injEq, and_true] at e4
        exact e4.1.symm
      subst ez
      have hc : ((decide (-(2 ^ 63) ≤ j) && decide (j < 2 ^ 63)) && (decide (-(2 ^ 63) ≤ vsum ys + j) && decide (vsum ys + j < 2 ^ 63))) = true := by
        simp only [Bool.and_eq_true, decide_eq_true_eq]
        exact ⟨⟨f1, f2⟩, f3, f4⟩
      show wpAny _ A.in1 (if (_ : Bool) = true then (mkInt (vsum ys + j) >>= _) else _) _ _ _
      split
      · refine wpAny_bind (wpAny_mkInt ?_)
        show wpAny _ A.in1 (updateSeq S (fun _ => #[.int (vsum ys + j) s1.toks]) >>= _) _ _ _
        refine wpAny_bind ?_
        refine wpAny_updateSeq e1 rfl (wpAny_pure ⟨plainId_quiet F.plain_sum_loop _, ?_⟩)
        have keep3 : ∀ b o, b ≠ S → s1.heap.get? b = some o → (s1.heap.update S (Obj.mapSeq (fun _ => #[.int (vsum ys + j) s1.toks]))).get? b = some o := fun b o hbS e => (Heap.get?_update_other _ _ (Ne.symm hbS)).trans e
        obtain ⟨c2, hSn⟩ : ∃ c2, (s1.heap.update S (Obj.mapSeq (fun _ => #[.int (vsum ys + j) s1.toks]))).get? S = some (lstObj #[.int (vsum ys + j) s1.toks] c2) := ⟨_, Heap.get?_update_self _ e1 rfl⟩
        obtain ⟨m, hm, hS2⟩ := h7 { s1 with heap := s1.heap.update S (Obj.mapSeq (fun _ => #[.int (vsum ys + j) s1.toks])), toks := s1.toks + 1 } [(S, lstObj #[.int (vsum ys + j) s1.toks] c2)] ⟨rfl, h5.bare, fun b o hb e => keep3 b o (fun z => hb (by rw [z]; exact List.mem_singleton.mpr rfl)) e⟩ rfl
          ⟨rfl, fun p hp => by rw [List.mem_singleton.mp hp]; exact ⟨hSn, fun v q => by cases q⟩⟩ ⟨s1.toks, c2, by rw [vsum_append]; simp [vsum]⟩
        refine ih m (by omega) _ (vsum ys + j) s1.toks c2 ?_ ?_ hSn hS2
        · obtain ⟨mc, hns, hnn⟩ := h5.nolimit
          exact ⟨mc, hns.at' fun o e => keep3 _ o (Ne.symm hSc) e, hnn⟩
        · exact hgo _ (keep3 a go (Ne.symm hSa) (h5.pin (a, go) (List.mem_append_left _ hpa)).1)
      · rename_i hneg
        exact absurd hc hneg
    · obtain ⟨ys, pl, H, q1, q2, ⟨t', c', rfl⟩, q4, q5, q6⟩ := hp
      have e1 : s1.heap.get? S = some (lstObj #[.int (vsum ys) t'] c') := (q2.at_ _ (List.mem_singleton.mpr rfl)).1
      have e2 := e1.symm.trans ((q6 S (List.mem_singleton.mpr rfl)).trans hS0)
      have ez : z = vsum ys := by
        have e3 : (#[Value.int (vsum ys) t'] : Array Value) = #[.int z t] := by
          have := congrArg Obj.data (Option.some.inj e2)
          injection this
        have e4 := congrArg Array.toList e3
        simp only [List.cons.injEq, Value.int.injEq, and_true] at e4
        exact e4.1.symm
      subst ez
      exact wpAny_pure (hend s1 ys t _ H q4 q5)
def tSumG (tg : TGx) : TE := fun σ H Q => tg σ H ThS fun ys H1 => Q (.int (vsum ys)) H1
theorem pe_sumG (h : PGx X k e tg) (hr : Room (k + 4) X.A) (hg : Gl X "sum") (hm : X.mg "sum" = none)
    (he : starEach [e] X.env = (false, eval e X.env) :: starEach [] X.env := by rfl) : PE X (.Call (.Name "sum" p) [e] [] pos) (tSumG tg) := by
  refine ⟨fun pins s σ H Q I hq => ?_⟩
  refine wpAny_Call_Name_kw (ld_blt I hg hm boot_sum' ?_)
  refine PyProof.Rows.callWith_builtin1 ?_ he (by rfl)
  rw [he]
  show wpAny _ _ (spliced ((false, eval e X.env) :: backTo pos (starEach [] X.env))) _ _ s
  refine Calls.spliced_cons (thn (h.run pins s σ H _ _ I hq) fun u s1 hG => ?_)
  refine Calls.spliced_nil ?_
  obtain ⟨a, g, c, go, sB, HB, N', cenv, fp, σ0, rfl, I1, hex, ha1, ha2, hgo, hat, hgs, hos, hb, hkp, run⟩ := hG
  have hsB : sB.heap.NoLimit := I1.nolimit
  have hcl : cStatics < sB.heap.objs.size := let ⟨_, hn, _⟩ := hsB; hn.lt
  have hlim : s1.heap.NoLimit := hsB.keeps hkp
  refine call_function_tree F.kind_sum F.plain_sum F.entry_sum (F.args_sum1 _) ?_
  unfold Builtin.«sum»
  simp only [List.length_cons, List.length_nil]
  rw [if_neg (by decide)]
  refine wpAny_bind (wpAny_of_eq (show Builtin.Builtins.bindParams "sum" ["start"] 0 { } = pure [none] from rfl) ?_)
  refine wpAny_bind (wpAny_pyIter_gen (hgo _ hat) ?_)
  refine wpAny_bind (wpAny_mkInt ?_)
  refine wpAny_bind (wpAny_pure ?_)
  simp only [List.forIn_cons, List.forIn_nil]
  refine wpAny_bind (wpAny_bind (wpAny_bind (wpAny_isInstance (T := "int") (b := false) (typeIs_int _ _ _) PySem.sub_int_str ?_)))
  simp only [Bool.false_eq_true, if_false]
  refine wpAny_pure (wpAny_bind (wpAny_bind (wpAny_isInstance (T := "int") (b := false) (typeIs_int _ _ _) PySem.sub_int_bytes ?_)))
  simp only [Bool.false_eq_true, if_false]
  refine wpAny_pure (wpAny_bind (wpAny_bind (wpAny_isInstance (T := "int") (b := false) (typeIs_int _ _ _) PySem.sub_int_bytearray ?_)))
  simp only [Bool.false_eq_true, if_false]
  refine wpAny_pure (wpAny_pure ?_)
  refine wpAny_bind (wpAny_newObj_type ?_)
  have k1 : ∀ (o : Obj) b u, s1.heap.get? b = some u → (s1.heap.push o).get? b = some u := fun o b u e => Heap.get?_push_of_some _ e
  have hroom : Room (k + 1) X.A.in1.in1 := ⟨hr.hd, by have := hr.dp; show X.A.depth + 3 * (k + 1) + 5 < _; omega, by have := hr.un; show X.A.units + 1 + 1 + 16 * (k + 1) + 200 < _; omega⟩
  have hS0 : ∀ t, (s1.heap.push { cls := .type "list", data := .seq ([Value.int 0 t] : List Value).toArray }).get? s1.heap.objs.size = some (lstObj #[.int (vsum []) t] 0) := fun t => Heap.get?_push_size _ rfl
  refine wpAny_pure ⟨plainId_quiet F.plain_sum_loop _, ?_⟩
  refine drainS (G := gcx X sB HB N' cenv fp (X.A.in1.in1.deeper cenv) [(a, go)]) (Qe := fun ys H1 => Q (V.int (vsum ys)) H1) (σ0 := σ0) (A := X.A) (go := go) hr.hd (by have := hr.dp; show X.A.depth < _; omega) (List.mem_singleton.mpr rfl) hgo (Nat.ne_of_gt ha2) (Nat.ne_of_gt (Nat.lt_trans hcl (Nat.lt_trans ha1 ha2)))
    (fun s' ys t pl H1 q1 q2 => ?_) sizeLine _ (vsum []) s1.toks 0 ?_ ?_ ?_ ?_
  · exact ⟨.int (vsum ys), H1, inv_back I1 hex q1, ⟨t, rfl⟩, q2⟩
  · exact hlim.keeps (k1 _)
  · exact hgo _ (k1 _ _ _ hat)
  · exact hS0 _
  · refine susp_of hgs (run X.A.in1.in1 _ [s1.heap.objs.size] (GhS s1.heap.objs.size) _ hroom I.ok.frames (fun b hb => by rw [List.mem_singleton.mp hb]; exact Nat.le_refl _) (k1 _) hos (allBare_setGen (s := { s1 with heap := _ }) hb rfl) ?_ ⟨s1.toks, 0, rfl⟩)
    exact ⟨rfl, fun p hp => by rw [List.mem_singleton.mp hp]; exact ⟨hS0 _, fun v q => by cases q⟩⟩
end

/-! ### any, all -/
theorem drain1 {G : Cx} {nm : String} {bb : Bool} {Th : List V → V → Hp → Prop} {Qe : List V → Hp → Prop} {σ0 : L2.St} {A : Around} {a : Addr} {g : Nat} {go : Obj} {R : Result → Shared → Prop} (hh : A.handled = none) (hd : A.depth < recursionLimit) (hpa : (a, go) ∈ G.pn) (hgo : ∀ h : Heap, h.get? a = some go → h.IsGen a g)
    (hTh : ∀ ys x H, Th ys x H → ∃ b, x = .bl b)
    (step : ∀ (s : Shared) (R' : Result → Shared → Prop), wpAny (model G.prog G.w) A.in1 (pyNext (.ref a)) (fun r s1 => match r with
        | none => R' (.ok (.ret (.bool (!bb)))) s1
        | some v => ∃ b, v = .bool b ∧ if b = bb then R' (.ok (.ret (.bool bb))) s1 else codeAny (model G.prog G.w) A (.builtin nm ⟨[.ref a], []⟩) R' s1) (fun e s1 => R' (.error e) s1) s → codeAny (model G.prog G.w) A (.builtin nm ⟨[.ref a], []⟩) R' s)
    (hend : ∀ s' ys pl H, Inv G pl σ0 H s' → Qe ys H → (∀ y ∈ ys, y ≠ V.bl bb) → R (.ok (.ret (.bool (!bb)))) s') (hyes : ∀ s' ys pl H, Inv G pl σ0 H s' → Th ys (.bl bb) H → R (.ok (.ret (.bool bb))) s') :
    ∀ (n : Nat) (s : Shared), s.heap.NoLimit → s.heap.IsGen a g → Susp G ⟨[], fun ys pl => pl = [] ∧ ∀ y ∈ ys, y ≠ V.bl bb, Th, Qe⟩ σ0 A.in1 g n s → codeAny (model G.prog G.w) A (.builtin nm ⟨[.ref a], []⟩) R s := by
  intro n
  induction n using Nat.strongRecOn with
  | ind n ih =>
    intro s hl hg hS
    refine step s R (gx_next (A := A.in1) hh hd hl hg hS (fun ys x v pl H s1 h1 h2 h3 h4 h5 h6 h8 h7 => ?_) fun s1 hp => ?_)
    · obtain ⟨b, rfl⟩ := hTh _ _ _ h6
      have ev : v = Value.bool b := h2
      refine ⟨b, ev, ?_⟩
      by_cases hb : b = bb
      · rw [if_pos hb]
        subst hb
        exact hyes s1 ys pl H h5 h6
      · rw [if_neg hb]
        obtain ⟨m, hm, hS2⟩ := h7 s1 [] ⟨rfl, h5.bare, fun _ _ _ e => e⟩ rfl ⟨rfl, fun p hp => absurd hp (by simp)⟩ ⟨rfl, fun y hy => by
          rcases List.mem_append.mp hy with z | z
          · exact h4.2 y z
          · rw [List.mem_singleton.mp z]
            exact fun q => hb (V.bl.inj q)⟩
        exact ih m (by omega) s1 h5.nolimit (hgo _ (h5.pin (a, go) (List.mem_append_left _ hpa)).1) hS2
    · obtain ⟨ys, pl, H, q1, q2, q3, q4, q5, q6⟩ := hp
      exact hend s1 ys pl H q4 q5 q3.2
theorem step_any {prog : Program} {w : World} {A : Around} {a : Addr} (s : Shared) (R' : Result → Shared → Prop) (h : wpAny (model prog w) A.in1 (pyNext (.ref a)) (fun r s1 => match r with
        | none => R' (.ok (.ret (.bool (!true)))) s1
        | some v => ∃ b, v = .bool b ∧ if b = true then R' (.ok (.ret (.bool true))) s1 else codeAny (model prog w) A (.builtin "any.loop" ⟨[.ref a], []⟩) R' s1) (fun e s1 => R' (.error e) s1) s) : codeAny (model prog w) A (.builtin "any.loop" ⟨[.ref a], []⟩) R' s := by
  refine codeAny_builtin F.entry_any_loop ?_
  rw [Around.under_plainId F.plain_any_loop _]
  show wpAny _ A.in1 (pyNext (.ref a) >>= _) _ _ s
  refine wpAny_bind (thn h fun r s1 h1 => ?_)
  cases r with
  | none => exact wpAny_bind (wpAny_rule (wpAny_pure h1))
  | some v =>
    obtain ⟨b, rfl, h1⟩ := h1
    refine wpAny_bind (wpAny_holding (wpAny_truthy_bool ?_))
    refine wpAny_bind (wpAny_letGo ?_)
    cases b with
    | true =>
      simp only [if_true]
      exact wpAny_bind (wpAny_rule (wpAny_pure h1))
    | false =>
      simp only [Bool.false_eq_true, if_false]
      exact wpAny_pure ⟨plainId_quiet F.plain_any_loop _, h1⟩
theorem step_all {prog : Program} {w : World} {A : Around} {a : Addr} (s : Shared) (R' : Result → Shared → Prop) (h : wpAny (model prog w) A.in1 (pyNext (.ref a)) (fun r s1 => match r with
        | none => R' (.ok (.ret (.bool (!false)))) s1
        | some v => ∃ b, v = .bool b ∧ if b = false then R' (.ok (.ret (.bool false))) s1 else codeAny (model prog w) A (.builtin "all.loop" ⟨[.ref a], []⟩) R' s1) (fun e s1 => R' (.error e) s1) s) : codeAny (model prog w) A (.builtin "all.loop" ⟨[.ref a], []⟩) R' s := by
  refine codeAny_builtin F.entry_all_loop ?_
  rw [Around.under_plainId F.plain_all_loop _]
  show wpAny _ A.in1 (pyNext (.ref a) >>= _) _ _ s
  refine wpAny_bind (thn h fun r s1 h1 => ?_)
  cases r with
  | none => exact wpAny_bind (wpAny_rule (wpAny_pure h1))
  | some v =>
    obtain ⟨b, rfl, h1⟩ := h1
    refine wpAny_bind (wpAny_holding (wpAny_truthy_bool ?_))
    refine wpAny_bind (wpAny_letGo ?_)
    cases b with
    | false =>
      simp only [Bool.false_eq_true, if_false]
      exact wpAny_bind (wpAny_rule (wpAny_pure h1))
    | true =>
      simp only [if_true]
      exact wpAny_pure ⟨plainId_quiet F.plain_all_loop _, h1⟩
def tAnyG (tg : TGx) : TE := fun σ H Q => tg σ H (fun _ x H1 => ∃ b, x = .bl b ∧ (b = true → Q (.bl true) H1)) fun ys H1 => (∀ y ∈ ys, y ≠ V.bl true) → Q (.bl false) H1
def tAllG (tg : TGx) : TE := fun σ H Q => tg σ H (fun _ x H1 => ∃ b, x = .bl b ∧ (b = false → Q (.bl false) H1)) fun ys H1 => (∀ y ∈ ys, y ≠ V.bl false) → Q (.bl true) H1
section
variable {X : Cx} {p pos : Pos} {e : Expr} {tg : TGx} {k : Nat}
theorem pe_anyG (h : PGx X k e tg) (hr : Room (k + 4) X.A) (hg : Gl X "any") (hm : X.mg "any" = none)
    (he : starEach [e] X.env = (false, eval e X.env) :: starEach [] X.env := by rfl) : PE X (.Call (.Name "any" p) [e] [] pos) (tAnyG tg) := by
  refine ⟨fun pins s σ H Q I hq => ?_⟩
  refine wpAny_Call_Name_kw (ld_blt I hg hm boot_any' ?_)
  refine PyProof.Rows.callWith_builtin1 ?_ he (by rfl)
  rw [he]
  show wpAny _ _ (spliced ((false, eval e X.env) :: backTo pos (starEach [] X.env))) _ _ s
  refine Calls.spliced_cons (thn (h.run pins s σ H _ _ I hq) fun u s1 hG => ?_)
  refine Calls.spliced_nil ?_
  obtain ⟨a, g, c, go, sB, HB, N', cenv, fp, σ0, rfl, I1, hex, ha1, ha2, hgo, hat, hgs, hos, hb, hkp, run⟩ := hG
  refine call_function_tree F.kind_any F.plain_any F.entry_any (F.args_any1 _) ?_
  unfold Builtin.«any»
  refine wpAny_bind (m := oneArg "any" _) (wpAny_pure ?_)
  refine wpAny_bind (wpAny_pyIter_gen (hgo _ hat) ?_)
  have hroom : Room (k + 1) X.A.in1.in1 := ⟨hr.hd, by have := hr.dp; show X.A.depth + 3 * (k + 1) + 5 < _; omega, by have := hr.un; show X.A.units + 1 + 1 + 16 * (k + 1) + 200 < _; omega⟩
  refine wpAny_pure ⟨plainId_quiet F.plain_any_loop _, ?_⟩
  refine drain1 (G := gcx X sB HB N' cenv fp (X.A.in1.in1.deeper cenv) [(a, go)]) (bb := true) (nm := "any.loop") (Th := fun _ x H1 => ∃ b, x = .bl b ∧ (b = true → Q (.bl true) H1)) (Qe := fun ys H1 => (∀ y ∈ ys, y ≠ V.bl true) → Q (.bl false) H1) (σ0 := σ0) (A := X.A) (go := go) hr.hd (by have := hr.dp; show X.A.depth < _; omega) (List.mem_singleton.mpr rfl) hgo
    (fun _ _ _ ⟨b, e, _⟩ => ⟨b, e⟩) step_any (fun s' ys pl H1 q1 q2 q3 => ?_) (fun s' ys pl H1 q1 q2 => ?_) sizeLine _ (I1.nolimit.keeps hkp) (hgo _ hat) (susp_of hgs (run X.A.in1.in1 _ [] (fun ys pl => pl = [] ∧ ∀ y ∈ ys, y ≠ V.bl true) [] hroom I.ok.frames (fun b hb => absurd hb (by simp)) (fun _ _ e => e) hos (allBare_setGen hb rfl) ⟨rfl, fun p hp => absurd hp (by simp)⟩ ⟨rfl, fun y hy => absurd hy (by simp)⟩))
  · exact ⟨.bl false, H1, inv_back I1 hex q1, rfl, q2 q3⟩
  · obtain ⟨b, e, q2⟩ := q2
    cases e
    exact ⟨.bl true, H1, inv_back I1 hex q1, rfl, q2 rfl⟩
theorem pe_allG (h : PGx X k e tg) (hr : Room (k + 4) X.A) (hg : Gl X "all") (hm : X.mg "all" = none)
    (he : starEach [e] X.env = (false, eval e X.env) :: starEach [] X.env := by rfl) : PE X (.Call (.Name "all" p) [e] [] pos) (tAllG tg) := by
  refine ⟨fun pins s σ H Q I hq => ?_⟩
  refine wpAny_Call_Name_kw (ld_blt I hg hm boot_all' ?_)
  refine PyProof.Rows.callWith_builtin1 ?_ he (by rfl)
  rw [he]
  show wpAny _ _ (spliced ((false, eval e X.env) :: backTo pos (starEach [] X.env))) _ _ s
  refine Calls.spliced_cons (thn (h.run pins s σ H _ _ I hq) fun u s1 hG => ?_)
  refine Calls.spliced_nil ?_
  obtain ⟨a, g, c, go, sB, HB, N', cenv, fp, σ0, rfl, I1, hex, ha1, ha2, hgo, hat, hgs, hos, hb, hkp, run⟩ := hG
  refine call_function_tree F.kind_all F.plain_all F.entry_all (F.args_all1 _) ?_
  unfold Builtin.«all»
  refine wpAny_bind (m := oneArg "all" _) (wpAny_pure ?_)
  refine wpAny_bind (wpAny_pyIter_gen (hgo _ hat) ?_)
  have hroom : Room (k + 1) X.A.in1.in1 := ⟨hr.hd, by have := hr.dp; show X.A.depth + 3 * (k + 1) + 5 < _; omega, by have := hr.un; show X.A.units + 1 + 1 + 16 * (k + 1) + 200 < _; omega⟩
  refine wpAny_pure ⟨plainId_quiet F.plain_all_loop _, ?_⟩
  refine drain1 (G := gcx X sB HB N' cenv fp (X.A.in1.in1.deeper cenv) [(a, go)]) (bb := false) (nm := "all.loop") (Th := fun _ x H1 => ∃ b, x = .bl b ∧ (b = false → Q (.bl false) H1)) (Qe := fun ys H1 => (∀ y ∈ ys, y ≠ V.bl false) → Q (.bl true) H1) (σ0 := σ0) (A := X.A) (go := go) hr.hd (by have := hr.dp; show X.A.depth < _; omega) (List.mem_singleton.mpr rfl) hgo
    (fun _ _ _ ⟨b, e, _⟩ => ⟨b, e⟩) step_all (fun s' ys pl H1 q1 q2 q3 => ?_) (fun s' ys pl H1 q1 q2 => ?_) sizeLine _ (I1.nolimit.keeps hkp) (hgo _ hat) (susp_of hgs (run X.A.in1.in1 _ [] (fun ys pl => pl = [] ∧ ∀ y ∈ ys, y ≠ V.bl false) [] hroom I.ok.frames (fun b hb => absurd hb (by simp)) (fun _ _ e => e) hos (allBare_setGen hb rfl) ⟨rfl, fun p hp => absurd hp (by simp)⟩ ⟨rfl, fun y hy => absurd hy (by simp)⟩))
  · exact ⟨.bl true, H1, inv_back I1 hex q1, rfl, q2 q3⟩
  · obtain ⟨b, e, q2⟩ := q2
    cases e
    exact ⟨.bl false, H1, inv_back I1 hex q1, rfl, q2 rfl⟩
end
end GX
set_option Elab.async false
set_option linter.all false
set_option maxRecDepth 100000
set_option maxHeartbeats 4000000
/-! What all laws of this program share. -/
namespace KC
open PySem PySem.Spec PyProof.Rows L2 GX Evl

/-- a def of the top, called by its name -/
structure Cal (P : Program) (w : World) (K : PySem.W.Frag) (mg : Str → Option Value) (base : Heap) (nm : Str) (k : Nat) (ps : List Str) (sp : Sp) : Prop where
  out : ∃ f fd, mg nm = some (.ref f) ∧ PySem.W.keepIn K (.ref f) = true ∧ Binds K fd ps [] ∧ FnOk P w K mg base CX0 k f fd ps sp
theorem pe_callC {X : Cx} {nm : Str} {k : Nat} {ps : List Str} {sp : Sp} {p pos : Pos} {e : Expr} {es : List Expr} {t : TA} (C : Cal X.prog X.w X.K X.mg X.base nm k ps sp) (hr : Room k X.A) (hg : Gl X nm) (ha : PA X (e :: es) t)
    (hdb : (nm == ("__debug__" : Str)) = false := by decide) (he : starEach (e :: es) X.env = (false, eval e X.env) :: starEach es X.env := by rfl) (hpl : (backTo pos (starEach es X.env)).any (·.1) = false := by rfl) :
    PE X (.Call (.Name nm p) (e :: es) [] pos) (tCall sp [] E0 t) := by
  obtain ⟨f, fd, h1, h2, h3, h4⟩ := C.out
  exact pe_call h4 hr hg h1 h2 h3 .nil pass0 ha hdb he hpl

/-- the builtins that no def of the text hides -/
structure Bs (mg : Str → Option Value) : Prop where
  len : mg "len" = none
  int : mg "int" = none
  min : mg "min" = none
  max : mg "max" = none
  list : mg "list" = none
  sorted : mg "sorted" = none
  sum : mg "sum" = none
  range : mg "range" = none
  enumerate : mg "enumerate" = none
  zip : mg "zip" = none
  any : mg "any" = none
  isinstance : mg "isinstance" = none
  bool : mg "bool" = none
  reversed : mg "reversed" = none

/-- a def whose code object is known (its table of codes is used) -/
structure FunT (K : PySem.W.Frag) (x qual : Str) (st : Stmt) (f : Addr) (fd : FuncData) (c : Addr) : Prop where
  ex : ∃ (oc : Value) (od : Option Addr) (kV doc pm : Value) (an : Option Addr) (ct : Value) (osl : Array (Option Value)),
    fd = PySem.W.fnOf x qual (defArgs st) (defBody st) (defScope st) .none kV doc pm an (.ref c) ct ∧ K.lookup f = some ⟨oc, od, .func fd, osl⟩ ∧ PySem.W.codeIn K (.ref c) qual = true
  kp : PySem.W.keepIn K (.ref f) = true
theorem FunT.fn {K : PySem.W.Frag} {x qual : Str} {st : Stmt} {f c : Addr} {fd : FuncData} (F : FunT K x qual st f fd c) : Fun K x qual st f fd := by
  obtain ⟨oc, od, kV, doc, pm, an, ct, osl, h1, h2, h3⟩ := F.ex
  exact ⟨⟨oc, od, kV, doc, pm, an, .ref c, ct, osl, h1, h2, h3⟩, F.kp⟩
section
variable {P : Program} {w : World} {K : PySem.W.Frag} {mg : Str → Option Value} {base : Heap}
theorem FunT.ok {x qual : Str} {st : Stmt} {f c : Addr} {fd : FuncData} {N ps : List Str} {k : Nat} {sp : Sp} (F : FunT K x qual st f fd c) (S : FnScope N ps (defScope st)) (len : ∀ vs H Q E, sp vs H Q E → vs.length = ps.length)
    (hbody : ∀ (A : Around) (outer : List Env) (s : Shared) (H : Hp) (vs : List V) (Q : VK) (E : XK), Room k (A.deeper (envOfC qual (defScope st) s.heap.objs.size f (.ref c))) → sp vs H Q E →
      ∃ t, PSs (cxOf CX0 P w K mg base N qual (defScope st) f (.ref c) A outer s H E).nox (defBody st) t ∧ t { nx := fun _ H' => Q .non H', rt := Q } (start N vs) H) : FnOk P w K mg base CX0 (k + 1) f fd ps sp := by
  obtain ⟨oc, od, kV, doc, pm, an, ct, osl, rfl, lk, hcd⟩ := F.ex
  refine fn_of lk hcd S len fun A outer s H vs Q E hr hsp => ?_
  obtain ⟨t, h, q⟩ := hbody A outer s H vs Q E hr hsp
  exact ⟨t, h.nox, q⟩
theorem cal_of {nm : Str} {st : Stmt} {f : Addr} {fd : FuncData} {k : Nat} {ps : List Str} {sp : Sp} (F : Fun K nm nm st f fd) (g : mg nm = some (.ref f)) (b : Binds K fd ps []) (ok : FnOk P w K mg base CX0 k f fd ps sp) : Cal P w K mg base nm k ps sp :=
  ⟨f, fd, g, F.kp, b, ok⟩
end

/-! ### heaps -/
theorem ex_of_new {H H' : Hp} {p : Addr} {o : HO} (e : Ex H H') (h : H' p = none) : Ex H (upd H' p o) := e.trans (Ex.new h)
mutual
theorem Dp.ext {K : PySem.W.Frag} {H H' : Hp} (e : Ex H H') : ∀ (d : PyData) (v : V), Dp K H v d → Dp K H' v d
  | .none, _, h => by cases h; exact .non
  | .bool b, _, h => by cases h; exact .bl b
  | .int i, _, h => by cases h; exact .int i
  | .str x, _, h => by cases h; exact .str x
  | .list ds, _, h => by
    cases h with
    | lst h1 h2 => exact .lst (ex_l e h1) (DpAll.ext e ds _ h2)
  | .tuple ds, _, h => by
    cases h with
    | tup h1 h2 => exact .tup (ex_t e h1) (DpAll.ext e ds _ h2)
  | .dict _, _, h => by cases h
theorem DpAll.ext {K : PySem.W.Frag} {H H' : Hp} (e : Ex H H') : ∀ (ds : List PyData) (vs : List V), DpAll K H vs ds → DpAll K H' vs ds
  | [], _, h => by cases h; exact .nil
  | d :: ds, _, h => by
    cases h with
    | cons h1 h2 => exact .cons (Dp.ext e d _ h1) (DpAll.ext e ds _ h2)
end
theorem DpAll.app {K : PySem.W.Frag} {H : Hp} : ∀ {vs : List V} {ds : List PyData} {v : V} {d : PyData}, DpAll K H vs ds → Dp K H v d → DpAll K H (vs ++ [v]) (ds ++ [d])
  | [], _, _, _, h, h2 => by cases h; exact .cons h2 .nil
  | _ :: _, _, _, _, h, h2 => by
    cases h with
    | cons a b => exact .cons a (DpAll.app b h2)
theorem DpAll.len {K : PySem.W.Frag} {H : Hp} : ∀ {vs : List V} {ds : List PyData}, DpAll K H vs ds → vs.length = ds.length
  | [], _, h => by cases h; rfl
  | _ :: _, _, h => by
    cases h with
    | cons a b => exact congrArg (· + 1) (DpAll.len b)
theorem dpAll_ints {K : PySem.W.Frag} {H : Hp} : ∀ ns : List Int, DpAll K H (ns.map V.int) (ns.map PyData.int)
  | [] => .nil
  | n :: r => .cons (.int n) (dpAll_ints r)
theorem eqvAll_ints : ∀ xs ys : List Int, PyData.eqvAll (xs.map PyData.int) (ys.map PyData.int) = decide (xs = ys)
  | [], [] => by simp [PyData.eqvAll]
  | [], _ :: _ => by simp [PyData.eqvAll]
  | _ :: _, [] => by simp [PyData.eqvAll]
  | x :: xs, y :: ys => by
    simp only [List.map_cons, PyData.eqvAll, PyData.eqv, eqvAll_ints xs ys]
    by_cases h1 : x = y <;> by_cases h2 : xs = ys <;> simp [h1, h2]
theorem int_at {ns : List Int} {i : Nat} (h : i < ns.length) : (ns.map V.int)[i]? = some (.int (ns.getD i 0)) := by
  rw [List.getElem?_map, List.getElem?_eq_getElem h, List.getD_eq_getElem?_getD, List.getElem?_eq_getElem h]
  rfl
theorem atI_at {ns : List Int} {z : Int} {i : Nat} (e : z = (i : Int)) (h : i < ns.length) : atI (ns.map V.int) z = some (.int (ns.getD i 0)) := at_of e (int_at h)

/-! ### more readings, in short -/
section
variable {K : PySem.W.Frag} {σ : L2.St} {H H' : Hp} {ta tb te tx : TE} {t u : TT} {x y z v : V} {D : Ends} {tu tw tz : TS} {g : TG}
theorem rv_mod {i j : Int} (h : 0 < j) : RV (rI (fun _ j => 0 < j) fun i j => .int (i % j)) (.int i) (.int j) H (.int (i % j)) := rv_I h
theorem rv_div {i j : Int} (h : 0 < j) (h2 : j < 1073741824) : RV (rI CDiv fun i j => .int (i / j)) (.int i) (.int j) H (.int (i / j)) := rv_I ⟨h, h2⟩
theorem rv_mul {i j : Int} (h : -(2 ^ 64) < i ∧ i < 2 ^ 64) : RV (rI CMul fun i j => .int (i * j)) (.int i) (.int j) H (.int (i * j)) := rv_I (.inl h)
theorem rc_val {r : List V → Hp → VK → Prop} {vs : List V} (h : ∀ H1, Ex H H1 → ∀ Q : VK, Q z H1 → r vs H1 Q) : RC r vs H z := fun H1 e Q q => h H1 e Q (q H1 (Ex.refl H1))
theorem rc_int {i : Int} : RC (fun xs H Q => (∃ i, xs = [.int i] ∧ Q (.int i) H) ∨ ∃ k, xs = [.bl k] ∧ Q (.int (if k then 1 else 0)) H) [.int i] H (.int i) := rc_val fun _ _ _ q => .inl ⟨i, rfl, q⟩
theorem rc_len {a : Addr} {xs : List V} {r : List V → Hp → VK → Prop} (h : ∀ H1, Ex H H1 → ∀ Q : VK, Q (.int (xs.length : Int)) H1 → r [.ref a] H1 Q) : RC r [.ref a] H (.int (xs.length : Int)) := rc_val h
theorem ea1 (h : Ev ta σ H x) : EvA (tCons ta tNil) σ H [x] := ea_cons h ea_nil
theorem ea2 (h : Ev ta σ H x) (h2 : Ev tb σ H y) : EvA (tCons ta (tCons tb tNil)) σ H [x, y] := ea_cons h (ea1 h2)
theorem ea3 {tc : TE} (h : Ev ta σ H x) (h2 : Ev tb σ H y) (h3 : Ev tc σ H z) : EvA (tCons ta (tCons tb (tCons tc tNil))) σ H [x, y, z] := ea_cons h (ea2 h2 h3)
end
end KC
set_option Elab.async false
set_option linter.all false
set_option maxRecDepth 100000
set_option maxHeartbeats 4000000
namespace KC
open PySem PySem.Spec PyProof.Rows L2 GX Evl

/-- it gives data d -/
def EvD (K : PySem.W.Frag) (te : TE) (σ : L2.St) (H : Hp) (d : PyData) : Prop := ∀ H1, Ex H H1 → ∀ Q : VK, (∀ v H2, Ex H1 H2 → Dp K H2 v d → Q v H2) → te σ H1 Q
def EvDA (K : PySem.W.Frag) (ta : TA) (σ : L2.St) (H : Hp) (ds : List PyData) : Prop := ∀ H1, Ex H H1 → ∀ Q : List V → Hp → Prop, (∀ vs H2, Ex H1 H2 → DpAll K H2 vs ds → Q vs H2) → ta σ H1 Q
def RetD (K : PySem.W.Frag) (d : PyData) (H : Hp) (Q : VK) : Prop := ∀ v H2, Ex H H2 → Dp K H2 v d → Q v H2
def SpD (K : PySem.W.Frag) (sp : Sp) (vs : List V) (H : Hp) (d : PyData) : Prop := ∀ H1, Ex H H1 → ∀ Q : VK, (∀ v H2, Ex H1 H2 → Dp K H2 v d → Q v H2) → ∀ E : XK, sp vs H1 Q E
mutual
def noList : PyData → Bool
  | .list _ => false
  | .dict _ => false
  | .tuple ds => noListAll ds
  | _ => true
def noListAll : List PyData → Bool
  | [] => true
  | d :: r => noList d && noListAll r
end
theorem sqt_put {K : PySem.W.Frag} {H : Hp} {l a : Addr} {zs ys xs : List V} (h : SqT K H a xs) (hl : H l = some (.lst zs)) : SqT K (upd H l (.lst ys)) a xs := by
  rcases h with (h | ⟨o, h⟩) | h
  · exact .inl (.inl (by rw [upd_ne (fun e => by rw [e, hl] at h; cases h)]; exact h))
  · exact .inl (.inr ⟨o, by rw [upd_ne (fun e => by rw [e, hl] at h; cases h)]; exact h⟩)
  · exact .inr h
theorem sql_put {K : PySem.W.Frag} {H : Hp} {l a : Addr} {ys xs : List V} (h : SqL K H a xs) (hl : a ≠ l) : SqL K (upd H l (.lst ys)) a xs := by
  rcases h with (h | ⟨o, h⟩) | h
  · exact .inl (.inl (by rw [upd_ne hl]; exact h))
  · exact .inl (.inr ⟨o, by rw [upd_ne hl]; exact h⟩)
  · exact .inr h
mutual
theorem Dp.put {K : PySem.W.Frag} {H : Hp} {l : Addr} {zs ys : List V} (hl : H l = some (.lst zs)) : ∀ (d : PyData) (v : V), noList d = true → Dp K H v d → Dp K (upd H l (.lst ys)) v d
  | .none, _, _, h => by cases h; exact .non
  | .bool b, _, _, h => by cases h; exact .bl b
  | .int i, _, _, h => by cases h; exact .int i
  | .str x, _, _, h => by cases h; exact .str x
  | .list _, _, z, _ => by simp [noList] at z
  | .tuple ds, _, z, h => by
    cases h with
    | tup h1 h2 => exact .tup (sqt_put h1 hl) (DpAll.put hl ds _ (by simpa [noList] using z) h2)
  | .dict _, _, _, h => by cases h
theorem DpAll.put {K : PySem.W.Frag} {H : Hp} {l : Addr} {zs ys : List V} (hl : H l = some (.lst zs)) : ∀ (ds : List PyData) (vs : List V), noListAll ds = true → DpAll K H vs ds → DpAll K (upd H l (.lst ys)) vs ds
  | [], _, _, h => by cases h; exact .nil
  | d :: ds, _, z, h => by
    cases h with
    | cons h1 h2 =>
      simp only [noListAll, Bool.and_eq_true] at z
      exact .cons (Dp.put hl d _ z.1 h1) (DpAll.put hl ds _ z.2 h2)
end
theorem noListAll_map {α : Type} {f : α → PyData} (hf : ∀ a, noList (f a) = true) : ∀ xs : List α, noListAll (xs.map f) = true
  | [] => rfl
  | a :: r => by simp [noListAll, hf a, noListAll_map hf r]

section
variable {K : PySem.W.Frag} {σ : L2.St} {H H' : Hp} {ta tb te tx : TE} {t u : TT} {x y z v : V} {D : Ends} {tu tw tz : TS} {g : TG} {d d2 : PyData} {ds : List PyData}
theorem EvD.mono (e : Ex H H') (h : EvD K te σ H d) : EvD K te σ H' d := fun H1 a Q q => h H1 (e.trans a) Q q
theorem ed_int {i : Int} (h : Ev te σ H (.int i)) : EvD K te σ H (.int i) := fun H1 e Q q => h H1 e Q fun H2 e2 => q _ H2 e2 (.int i)
theorem ed_non (h : Ev te σ H .non) : EvD K te σ H .none := fun H1 e Q q => h H1 e Q fun H2 e2 => q _ H2 e2 .non
theorem ed_bl {b : Bool} (h : Ev te σ H (.bl b)) : EvD K te σ H (.bool b) := fun H1 e Q q => h H1 e Q fun H2 e2 => q _ H2 e2 (.bl b)
theorem ed_at (h : Ev te σ H v) (hd : Dp K H v d) : EvD K te σ H d := fun H1 e Q q => h H1 e Q fun H2 e2 => q _ H2 e2 (Dp.ext (e.trans e2) _ _ hd)
theorem eda_nil : EvDA K tNil σ H [] := fun H1 _ Q q => q [] H1 (Ex.refl H1) .nil
theorem eda_cons {tr : TA} (h : EvD K te σ H d) (hr : EvDA K tr σ H ds) : EvDA K (tCons te tr) σ H (d :: ds) := fun H1 e Q q =>
  h H1 e _ fun v H2 e2 hv => hr H2 (e.trans e2) _ fun vs H3 e3 hvs => q _ H3 (e2.trans e3) (.cons (Dp.ext e3 _ _ hv) hvs)
theorem ed_tup {ta : TA} (h : EvDA K ta σ H ds) (hl : ds.length ≤ 100000) : EvD K (tTup ta) σ H (.tuple ds) := fun H1 e Q q =>
  h H1 e _ fun vs H2 e2 hvs => ⟨sz_of (by rw [DpAll.len hvs]; exact hl), fun p hp => q _ _ (e2.trans (Ex.new hp)) (.tup (.inl (.inl upd_same)) (DpAll.ext (Ex.new hp) _ _ hvs))⟩
theorem ed_lst {ta : TA} (h : EvDA K ta σ H ds) (hl : ds.length ≤ 100000) : EvD K (tLst ta) σ H (.list ds) := fun H1 e Q q =>
  h H1 e _ fun vs H2 e2 hvs => ⟨sz_of (by rw [DpAll.len hvs]; exact hl), fun p hp => q _ _ (e2.trans (Ex.new hp)) (.lst (.inl (.inl upd_same)) (DpAll.ext (Ex.new hp) _ _ hvs))⟩
theorem ed_call {sp : Sp} {dvs vs : List V} {E : XK} {ta : TA} (h : EvA ta σ H vs) (hs : SpD K sp (vs ++ dvs) H d) : EvD K (tCall sp dvs E ta) σ H d := fun H1 e Q q =>
  h H1 e _ fun H2 e2 => hs H2 (e.trans e2) Q (fun v H3 e3 hv => q v H3 (e2.trans e3) hv) E
/-- a list of ints as data -/
theorem ed_listI {ns : List Int} (h : EvL te σ H (ns.map V.int)) : EvD K te σ H (.list (ns.map PyData.int)) := fun H1 e Q q =>
  h H1 e Q fun p H2 _ e2 hp => q _ H2 e2 (.lst (.inl (.inl hp)) (dpAll_ints ns))
theorem dp_listI {l : Addr} {ns : List Int} (h : SqL K H l (ns.map V.int)) : Dp K H (.ref l) (.list (ns.map PyData.int)) := .lst h (dpAll_ints ns)
theorem s_retD (h : EvD K te σ H d) (k : ∀ v H1, Ex H H1 → Dp K H1 v d → D.rt v H1) : tRet te D σ H := h H (Ex.refl H) _ k
theorem s_asgD {i : Nat} (h : EvD K te σ H d) (k : ∀ v H1, Ex H H1 → Dp K H1 v d → D.nx (σ.set i (some v)) H1) : tAsg te (gName i) D σ H := h H (Ex.refl H) _ k
theorem q_asgD {i : Nat} (h : EvD K te σ H d) (k : ∀ v H1, Ex H H1 → Dp K H1 v d → tz D (σ.set i (some v)) H1) : tSeq (tAsg te (gName i)) tz D σ H := s_asgD (D := { D with nx := tz D }) h k
/-- xs.append(data) -/
theorem s_appD {l : Addr} {xs : List V} (hl : H l = some (.lst xs)) (ha : Ev ta σ H (.ref l)) (h : EvD K te σ H d) (hz : xs.length < 100000) (k : ∀ v H1, Ex H H1 → Dp K H1 v d → D.nx σ (upd H1 l (.lst (xs ++ [v])))) :
    tDrop (tBM K "list" rAppend ta (tCons te tNil)) D σ H := ha H (Ex.refl H) _ fun H1 e1 =>
  ⟨Or.inl ⟨rfl, xs, sq_of (e1 l _ hl)⟩, h H1 e1 _ fun v H2 e2 hv => ⟨l, xs, v, rfl, rfl, e2 l _ (e1 l _ hl), sz_lt hz, k v H2 (e1.trans e2) hv⟩⟩
/-- data equal, not equal -/
theorem ev_eqD (ha : EvD K ta σ H d) (hb : EvD K tb σ H d2) (h1 : SeqAt.shaped d = true) (h2 : SeqAt.shaped d2 = true) : Ev (tOp (rEqD K) ta tb) σ H (.bl (PyData.eqv d d2)) := fun H1 e Q q =>
  ha H1 e _ fun v H2 e2 hv => hb H2 (e.trans e2) _ fun u H3 e3 hu => ⟨d, d2, Dp.ext e3 _ _ hv, hu, h1, h2, q H3 (e2.trans e3)⟩
theorem ev_neD (ha : EvD K ta σ H d) (hb : EvD K tb σ H d2) (h1 : SeqAt.shaped d = true) (h2 : SeqAt.shaped d2 = true) : Ev (tOp (rNeD K) ta tb) σ H (.bl (!PyData.eqv d d2)) := fun H1 e Q q =>
  ha H1 e _ fun v H2 e2 hv => hb H2 (e.trans e2) _ fun u H3 e3 hu => ⟨d, d2, Dp.ext e3 _ _ hv, hu, h1, h2, q H3 (e2.trans e3)⟩
theorem el_cat {xs ys : List V} {b : Addr} (ha : EvL ta σ H xs) (hb : Ev tb σ H (.ref b)) (h : H b = some (.lst ys)) (hz : xs.length + ys.length ≤ 100000) : EvL (tOp rCat ta tb) σ H (xs ++ ys) := fun H1 e Q q =>
  ha H1 e _ fun p H2 np e2 hp => hb H2 (e.trans e2) _ fun H3 e3 => ⟨p, b, xs, ys, rfl, rfl, e3 p _ hp, ((e.trans e2).trans e3) b _ h, sz_of hz, fun p2 hp2 => q p2 _ (fresh_back (e2.trans e3) hp2) ((e2.trans e3).trans (Ex.new hp2)) upd_same⟩
theorem el_cat2 {xs ys : List V} {a b : Addr} (ha : Ev ta σ H (.ref a)) (h0 : H a = some (.lst xs)) (hb : Ev tb σ H (.ref b)) (h : H b = some (.lst ys)) (hz : xs.length + ys.length ≤ 100000) : EvL (tOp rCat ta tb) σ H (xs ++ ys) := fun H1 e Q q =>
  ha H1 e _ fun H2 e2 => hb H2 (e.trans e2) _ fun H3 e3 => ⟨a, b, xs, ys, rfl, rfl, ((e.trans e2).trans e3) a _ h0, ((e.trans e2).trans e3) b _ h, sz_of hz, fun p2 hp2 => q p2 _ (fresh_back (e2.trans e3) hp2) ((e2.trans e3).trans (Ex.new hp2)) upd_same⟩
theorem el_rep {xs : List V} {i : Int} (ha : EvL ta σ H xs) (hb : Ev tb σ H (.int i)) (h1 : 0 ≤ i ∧ i ≤ 10000) (hz : xs.length ≤ 10) : EvL (tOp rRep ta tb) σ H (List.replicate i.toNat xs).flatten := fun H1 e Q q =>
  ha H1 e _ fun p H2 np e2 hp => hb H2 (e.trans e2) _ fun H3 e3 => ⟨p, i, xs, rfl, rfl, e3 p _ hp, by omega, by omega, sz_of (Nat.le_trans (Nat.mul_le_mul hz (show i.toNat ≤ 10000 by omega)) (by decide)), fun p2 hp2 => q p2 _ (fresh_back (e2.trans e3) hp2) ((e2.trans e3).trans (Ex.new hp2)) upd_same⟩
theorem el_rev {xs : List V} {a : Addr} (ha : Ev ta σ H (.ref a)) (h : SqL K H a xs) : EvL (tRevL K ta) σ H xs.reverse := fun H1 e Q q =>
  ha H1 e _ fun H2 e2 => ⟨a, xs, rfl, ex_l (e.trans e2) h, fun p hp => q p _ (fresh_back e2 hp) (e2.trans (Ex.new hp)) upd_same⟩
theorem el_if {b : Bool} {xs : List V} (h : EvT t σ H b) (h1 : b = true → EvL ta σ H xs) (h2 : b = false → EvL tb σ H xs) : EvL (tIf t ta tb) σ H xs := fun H1 e Q q => h H1 e _ fun H2 e2 => by
  cases b with
  | true => exact h1 rfl H2 (e.trans e2) Q fun p H3 hp e3 => q p H3 (fresh_back e2 hp) (e2.trans e3)
  | false => exact h2 rfl H2 (e.trans e2) Q fun p H3 hp e3 => q p H3 (fresh_back e2 hp) (e2.trans e3)
theorem rv_shl {i j : Int} (h : 0 ≤ j ∧ j ≤ 1000000 ∧ i.natAbs < 2 ^ 64) : RV (rI CPow fun i j => .int (i * 2 ^ j.toNat)) (.int i) (.int j) H (.int (i * 2 ^ j.toNat)) := rv_I h
theorem rv_shr {i j : Int} (h : 0 ≤ j) : RV (rI (fun _ j => 0 ≤ j) fun i j => .int (i / 2 ^ j.toNat)) (.int i) (.int j) H (.int (i / 2 ^ j.toNat)) := rv_I h
theorem rc_min {i j : Int} : RC (fun xs H Q => ∃ i j, xs = [.int i, .int j] ∧ Q (.int (if j < i then j else i)) H) [.int i, .int j] H (.int (if j < i then j else i)) := rc_val fun _ _ _ q => ⟨i, j, rfl, q⟩
theorem rc_max {i j : Int} : RC (fun xs H Q => ∃ i j, xs = [.int i, .int j] ∧ Q (.int (if j > i then j else i)) H) [.int i, .int j] H (.int (if j > i then j else i)) := rc_val fun _ _ _ q => ⟨i, j, rfl, q⟩
theorem ev_min {i j : Int} (h : Ev ta σ H (.int i)) (h2 : Ev tb σ H (.int j)) : Ev (tCB (fun xs H Q => ∃ i j, xs = [.int i, .int j] ∧ Q (.int (if j < i then j else i)) H) (tCons ta (tCons tb tNil))) σ H (.int (if j < i then j else i)) := ev_cb (ea2 h h2) rc_min
theorem ev_add {i j : Int} (h : Ev ta σ H (.int i)) (h2 : Ev tb σ H (.int j)) : Ev (tOp (rI0 fun i j => .int (i + j)) ta tb) σ H (.int (i + j)) := ev_op h h2 rv_I0
theorem ev_sub {i j : Int} (h : Ev ta σ H (.int i)) (h2 : Ev tb σ H (.int j)) : Ev (tOp (rI0 fun i j => .int (i - j)) ta tb) σ H (.int (i - j)) := ev_op h h2 rv_I0
theorem ev_lt {i j : Int} (h : Ev ta σ H (.int i)) (h2 : Ev tb σ H (.int j)) : Ev (tOp (rI0 fun i j => .bl (decide (i < j))) ta tb) σ H (.bl (decide (i < j))) := ev_op h h2 rv_I0
theorem ev_eq {i j : Int} (h : Ev ta σ H (.int i)) (h2 : Ev tb σ H (.int j)) : Ev (tOp rEq ta tb) σ H (.bl (decide (i = j))) := by
  have q := ev_op h h2 (rv_eq (x := .int i) (y := .int j) rfl)
  have e : decide ((V.int i) = V.int j) = decide (i = j) := by
    by_cases z : i = j
    · subst z; simp
    · rw [decide_eq_false z, decide_eq_false (fun q => z (V.int.inj q))]
  rw [e] at q
  exact q
theorem ev_ne {i j : Int} (h : Ev ta σ H (.int i)) (h2 : Ev tb σ H (.int j)) : Ev (tOp rNe ta tb) σ H (.bl (!decide (i = j))) := by
  have q := ev_op h h2 (rv_ne (x := .int i) (y := .int j) rfl)
  have e : decide ((V.int i) = V.int j) = decide (i = j) := by
    by_cases z : i = j
    · subst z; simp
    · rw [decide_eq_false z, decide_eq_false (fun q => z (V.int.inj q))]
  rw [e] at q
  exact q
end
end KC
set_option Elab.async false
set_option linter.all false
set_option maxRecDepth 100000
set_option maxHeartbeats 4000000
namespace KC
open PySem PySem.Spec PyProof.Rows L2 GX Evl
def capC (N N' : List Str) (cm : List (Option Nat)) (scope sc : Scope) : Bool :=
  decide (scope.kind = .function) && !scope.isCoroutine && (scope.names.all fun y => decide (y.2 ≠ .cell)) && decide (scope.names.lookup (".0" : Str) = some NameKind.local) &&
    (scope.names.all fun y => !decide (y.2 = .free) || (decide (sc.names.lookup y.1 = some .cell) || decide (sc.names.lookup y.1 = some .free))) && decide (cm.length = N'.length) &&
    ((cm.zip N').all fun p => match p.1 with | some j => (N[j]? == some p.2) && (scope.names.lookup p.2 == some .free) | none => true)
theorem capOk_by {N N' : List Str} {cm : List (Option Nat)} {scope sc : Scope} (h : capC N N' cm scope sc = true) : CapOk N N' cm scope sc := by
  unfold capC at h
  simp only [Bool.and_eq_true, List.all_eq_true, decide_eq_true_eq, Bool.not_eq_true', Bool.or_eq_true, decide_eq_false_iff_not] at h
  obtain ⟨⟨⟨⟨⟨⟨h1, h2⟩, h3⟩, h4⟩, h5⟩, h6⟩, h7⟩ := h
  refine ⟨h1, h2, h3, h4, fun y hy e => ?_, h6, ?_⟩
  · rcases h5 y hy with z | z
    · exact absurd e z
    · exact z
  · rw [List.all_eq_true]
    intro p hp
    have := h7 p hp
    revert this
    cases p.1 <;> simp
theorem ix_listK {X : Cx} {K : PySem.W.Frag} (h : X.K = K) : IxR X (rIxL K) := by
  subst h
  exact ix_list
theorem ix_tupK {X : Cx} {K : PySem.W.Frag} (h : X.K = K) : IxR X (rIxT K) := by
  subst h
  exact ix_tup
theorem canLayAll0_map {α : Type} {f : α → PyData} (h : ∀ a, (f a).canLay0 = true) : ∀ xs : List α, PyData.canLayAll0 (xs.map f) = true
  | [] => by simp [PyData.canLayAll0]
  | a :: r => by simp [PyData.canLayAll0, h a, canLayAll0_map h r]
theorem depthAll_map {α : Type} {f : α → PyData} {n : Nat} (h : ∀ a, (f a).depth ≤ n) : ∀ xs : List α, PyData.depthAll (xs.map f) ≤ n
  | [] => by simp [PyData.depthAll]
  | a :: r => by
    have h1 := depthAll_map h r
    have h2 := h a
    simp only [List.map_cons, PyData.depthAll]
    omega
theorem shaped_list {α : Type} {f : α → PyData} {n : Nat} (hn : n ≤ 60) (h1 : ∀ a, (f a).canLay0 = true) (h2 : ∀ a, (f a).depth ≤ n) (xs : List α) : SeqAt.shaped (.list (xs.map f)) = true := by
  have h3 := depthAll_map h2 xs
  have h4 : PyData.depth (.list (xs.map f)) ≤ 64 := by simp only [PyData.depth]; omega
  show (PyData.canLay0 (.list (xs.map f)) && decide (PyData.depth (.list (xs.map f)) ≤ 64)) = true
  rw [Bool.and_eq_true]
  exact ⟨by simp only [PyData.canLay0]; exact canLayAll0_map h1 xs, decide_eq_true h4⟩
theorem shaped_ints (ns : List Int) : SeqAt.shaped (.list (ns.map PyData.int)) = true := shaped_list (n := 1) (by decide) (fun a => by simp [PyData.canLay0]) (fun a => by simp [PyData.depth]) ns
theorem eqvAll_map {α : Type} {f : α → PyData} (h : ∀ a, PyData.eqv (f a) (f a) = true) : ∀ xs : List α, PyData.eqvAll (xs.map f) (xs.map f) = true
  | [] => by simp [PyData.eqvAll]
  | a :: r => by simp [PyData.eqvAll, h a, eqvAll_map h r]
theorem eqv_list {α : Type} {f : α → PyData} (h : ∀ a, PyData.eqv (f a) (f a) = true) (xs : List α) : PyData.eqv (.list (xs.map f)) (.list (xs.map f)) = true := by
  simp only [PyData.eqv]
  exact eqvAll_map h xs
theorem eqv_ints (xs : List Int) : PyData.eqv (.list (xs.map PyData.int)) (.list (xs.map PyData.int)) = true := eqv_list (fun a => by simp [PyData.eqv]) xs
section
variable {K : PySem.W.Frag} {σ : L2.St} {H H' : Hp} {ta tb tc te tx : TE}
theorem ev_sumL {ns : List Int} (h : EvL te σ H (ns.map V.int)) : Ev (tCB (rSum K) (tCons te tNil)) σ H (.int ns.sum) := fun H1 e Q q =>
  h H1 e _ fun p H2 _ e2 hp => ⟨p, ns, rfl, sq_of hp, q H2 e2⟩
theorem ev_sumLa {ns : List Int} {a : Addr} (h : Ev te σ H (.ref a)) (hs : SqL K H a (ns.map V.int)) : Ev (tCB (rSum K) (tCons te tNil)) σ H (.int ns.sum) := fun H1 e Q q =>
  h H1 e _ fun H2 e2 => ⟨a, ns, rfl, ex_l (e.trans e2) hs, q H2 e2⟩
theorem et_yes : EvT tYes σ H true := fun H1 _ _ q => q H1 (Ex.refl H1)
/-- list(xs) -/
theorem el_listOf {p : Addr} {xs : List V} (ha : Ev ta σ H (.ref p)) (h : SqL K H p xs) : EvL (tCB (fun xs H Q => ∃ p ys, xs = [.ref p] ∧ (SqL K H p ys ∨ SqT K H p ys) ∧ ∀ l, H l = none → Q (.ref l) (upd H l (.lst ys))) (tCons ta tNil)) σ H xs := fun H1 e Q q =>
  ha H1 e _ fun H2 e2 => ⟨p, xs, rfl, .inl (ex_l (e.trans e2) h), fun l hl => q l _ (fresh_back e2 hl) (e2.trans (Ex.new hl)) upd_same⟩
/-- a call whose third argument is a new tuple -/
theorem ed_call3U {sp : Sp} {E : XK} {x y : V} {xs : List V} {d : PyData} (h1 : Ev ta σ H x) (h2 : Ev tb σ H y) (h3 : EvU tc σ H xs) (hs : ∀ p H1, Ex H H1 → H1 p = some (.tup xs) → SpD K sp [x, y, .ref p] H1 d) : EvD K (tCall sp [] E (tCons ta (tCons tb (tCons tc tNil)))) σ H d := fun H1 e Q q =>
  h1 H1 e _ fun H2 e2 => h2 H2 (e.trans e2) _ fun H3 e3 => h3 H3 ((e.trans e2).trans e3) _ fun p H4 hp e4 h4 =>
    hs p H4 (((e.trans e2).trans e3).trans e4) h4 H4 (Ex.refl _) Q (fun v H5 e5 hv => q v H5 (((e2.trans e3).trans e4).trans e5) hv) E
end
end KC
set_option Elab.async false
set_option linter.all false
set_option maxRecDepth 100000
set_option maxHeartbeats 4000000
namespace KC
open PySem PySem.Spec PyProof.Rows L2 StX GX Evl
section
variable {K : PySem.W.Frag} {σ : L2.St} {H H' : Hp} {ta tb tc te tx tl : TE} {D : Ends} {tz : TS}
theorem tt_yes {A B : Hp → Prop} (h : A H) : tYes σ H (fun b H3 => if b = true then A H3 else B H3) := by
  show (if true = true then A H else B H)
  rw [if_pos rfl]
  exact h
/-- a < b < c -/
theorem ev_chain {r r2 : R2} {x y z : V} {b1 b2 : Bool} (h1 : Ev ta σ H x) (h2 : Ev tb σ H y) (h3 : RV r x y H (.bl b1)) (h4 : b1 = true → Ev tc σ H z) (h5 : b1 = true → RV r2 y z H (.bl b2)) : Ev (tChain r r2 ta tb tc) σ H (.bl (b1 && b2)) := fun H1 e Q q =>
  h1 H1 e _ fun H2 e2 => h2 H2 (e.trans e2) _ fun H3 e3 => h3 H3 ((e.trans e2).trans e3) _ fun H4 e4 => by
    have e14 := (e2.trans e3).trans e4
    refine ⟨b1, rfl, ?_⟩
    cases b1 with
    | false =>
      rw [if_neg Bool.false_ne_true]
      exact q H4 e14
    | true =>
      rw [if_pos rfl]
      exact h4 rfl H4 (e.trans e14) _ fun H5 e5 => h5 rfl H5 ((e.trans e14).trans e5) _ fun H6 e6 => q H6 ((e14.trans e5).trans e6)
/-- max([c, *xs]) where c is not below any -/
theorem ev_maxStar {c : Int} {l : Addr} {ls : List Int} (h : Ev ta σ H (.int c)) (h2 : Ev tb σ H (.ref l)) (hs : SqL K H l (ls.map V.int)) (hb : ∀ x ∈ ls, x ≤ c) (hz : ls.length ≤ 1000) :
    Ev (tCB (rMax K) (tCons (tLst (tCons ta (tStar K tb tNil))) tNil)) σ H (.int c) := fun H1 e Q q =>
  h H1 e _ fun H2 e2 => h2 H2 (e.trans e2) _ fun H3 e3 => by
    refine ⟨l, ls.map V.int, rfl, .inr (ex_l ((e.trans e2).trans e3) hs), sz_of ?_, fun p hp => ⟨p, c :: ls, rfl, sq_of ?_, Nat.succ_pos _, fun m hm hall => ?_⟩⟩
    · simp
      omega
    · rw [upd_same, List.append_nil]
      rfl
    · have h1 := hall c List.mem_cons_self
      have h3 : m ≤ c := by
        rcases List.mem_cons.mp hm with z | z
        · omega
        · exact hb m z
      have h4 : m = c := by omega
      subst h4
      exact q _ ((e2.trans e3).trans (Ex.new hp))
theorem max_of : ∀ ls : List Int, ls ≠ [] → ∃ m, m ∈ ls ∧ ∀ y ∈ ls, y ≤ m
  | [], h => absurd rfl h
  | [x], _ => ⟨x, List.mem_cons_self, fun y hy => by rw [List.mem_singleton.mp hy]; exact Int.le_refl _⟩
  | x :: y :: r, _ => by
    obtain ⟨m, h1, h2⟩ := max_of (y :: r) (by simp)
    by_cases e : m ≤ x
    · refine ⟨x, List.mem_cons_self, fun z hz => ?_⟩
      rcases List.mem_cons.mp hz with h | h
      · omega
      · have := h2 z h; omega
    · refine ⟨m, List.mem_cons_of_mem _ h1, fun z hz => ?_⟩
      rcases List.mem_cons.mp hz with h | h
      · omega
      · exact h2 z h
/-- max(xs) -/
theorem ev_maxL {l : Addr} {ls : List Int} {m : Int} (h : Ev ta σ H (.ref l)) (hs : SqL K H l (ls.map V.int)) (hm : m ∈ ls) (hall : ∀ y ∈ ls, y ≤ m) : Ev (tCB (rMax K) (tCons ta tNil)) σ H (.int m) := fun H1 e Q q =>
  h H1 e _ fun H2 e2 => ⟨l, ls, rfl, ex_l (e.trans e2) hs, List.length_pos_of_mem hm, fun n hn hal => by
    have h1 := hal m hm
    have h2 := hall n hn
    have : n = m := by omega
    subst this
    exact q H2 e2⟩
theorem sum_bd : ∀ (l : List Int) (B : Int), (∀ x ∈ l, 0 ≤ x ∧ x ≤ B) → 0 ≤ l.sum ∧ l.sum ≤ l.length * B
  | [], B, _ => by simp
  | x :: r, B, h => by
    have h1 := sum_bd r B fun y hy => h y (List.mem_cons_of_mem _ hy)
    have h2 := h x List.mem_cons_self
    have e : ((x :: r).length : Int) * B = r.length * B + B := by
      rw [List.length_cons, Int.natCast_add, Int.add_mul]
      simp
    rw [List.sum_cons, e]
    omega
/-- sum(f(x) for x in xs if b(x)) -/
theorem ev_sumLF {tt : TT} {Pt l : Addr} {cm : List (Option Nat)} {own : List Nat} {xs : List Int} (f : Int → Int) (b : Int → Bool) (h : Ev tl σ H (.ref l)) (hx : SqL K H l (xs.map V.int)) (hn : xs.length ≤ 1000) (tab : H Pt = some (TabX Pt))
    (hf : ∀ x ∈ xs, 0 ≤ f x ∧ f x ≤ 2 ^ 40) (hw : ∀ x, wipe ((captS cm σ).set 0 (some x)) own = captS cm σ) (ht : ∀ x ∈ xs, ∀ H1, Ex H H1 → EvT tt ((captS cm σ).set 0 (some (.int x))) H1 (b x))
    (he : ∀ x ∈ xs, b x = true → ∀ H1, Ex H H1 → Ev te ((captS cm σ).set 0 (some (.int x))) H1 (.int (f x))) :
    Ev (tSumG (tGx Pt (iList K tl) (gName 0) tt te cm own)) σ H (.int ((xs.filter b).map f).sum) := fun H1 e Q q =>
  h H1 e _ fun H3 e13 => by
    have e03 := e.trans e13
    have hxl : (xs.map V.int).length = xs.length := List.length_map _
    refine ⟨l, rfl, ⟨_, ex_l e03 hx⟩, e03 Pt _ tab, fun i m zs H' => m + i = xs.length ∧ Ex H3 H' ∧ zs = (((xs.take i).filter b).map f).map V.int, ⟨xs.length, by omega, Ex.refl _, rfl⟩, ?_⟩
    rintro i m zs H' ⟨hm, e4, rfl⟩
    have e04 := e03.trans e4
    by_cases hi : i < xs.length
    · right
      refine ⟨⟨_, _, ex_l e04 hx, int_at hi⟩, fun zs H5 => (m - 1) + (i + 1) = xs.length ∧ Ex H3 H5 ∧ zs = (((xs.take (i + 1)).filter b).map f).map V.int, fun zs H5 q => ⟨m - 1, by omega, q⟩, ?_⟩
      rintro v H5 ⟨rfl, hx1⟩
      have ex1 := (Option.some.inj ((int_at hi).symm.trans (hx1 _ (ex_l e04 hx)))).symm
      subst ex1
      have hxi : xs.getD i 0 = xs[i] := by rw [List.getD_eq_getElem?_getD, List.getElem?_eq_getElem hi] <;> rfl
      have hmem : xs.getD i 0 ∈ xs := by rw [hxi]; exact List.getElem_mem hi
      have htk : xs.take (i + 1) = xs.take i ++ [xs.getD i 0] := by rw [hxi]; exact (List.take_append_getElem hi).symm
      refine ⟨hw _, ht _ hmem _ e04 _ (Ex.refl _) _ fun H6 e6 => ?_⟩
      cases hb : b (xs.getD i 0) with
      | false =>
        rw [if_neg Bool.false_ne_true]
        refine ⟨by omega, e4.trans e6, ?_⟩
        rw [htk, List.filter_append, List.filter_cons, if_neg (by rw [hb]; decide), List.filter_nil, List.append_nil]
      | true =>
        rw [if_pos rfl]
        refine he _ hmem hb _ (e04.trans e6) _ (Ex.refl _) _ fun H7 e7 => ?_
        have hall : ∀ y ∈ ((xs.take i).filter b).map f, 0 ≤ y ∧ y ≤ 2 ^ 40 := fun y hy => by
          obtain ⟨x, hx2, rfl⟩ := List.mem_map.mp hy
          exact hf x (List.mem_of_mem_take (List.mem_filter.mp hx2).1)
        have hb1 := sum_bd _ _ hall
        have hb2 := hf _ hmem
        have hlen : (((xs.take i).filter b).map f).length ≤ i := by
          rw [List.length_map]
          exact Nat.le_trans (List.length_filter_le _ _) (by rw [List.length_take]; omega)
        have hB : ((((xs.take i).filter b).map f).length : Int) * 2 ^ 40 ≤ 1000 * 2 ^ 40 := by omega
        refine ⟨sz_lt (by rw [List.length_map]; omega), ⟨f _, rfl, ⟨by omega, by omega⟩, ?_⟩, by omega, (e4.trans e6).trans e7, ?_⟩
        · rw [vsum_ints]
          exact ⟨by omega, by omega⟩
        · rw [htk, List.filter_append, List.filter_cons, if_pos hb, List.filter_nil, List.map_append, List.map_append]
          rfl
    · left
      have hin : i = xs.length := by omega
      subst hin
      refine ⟨⟨_, ex_l e04 hx, by rw [hxl]; exact Nat.le_refl _⟩, ?_⟩
      show Q (.int (vsum _)) H'
      rw [vsum_ints, List.take_length]
      exact q H' (e13.trans e4)
/-- any(b(x) for x in xs) -/
theorem ev_anyL {Pt l : Addr} {cm : List (Option Nat)} {own : List Nat} {xs : List Int} (b : Int → Bool) (h : Ev tl σ H (.ref l)) (hx : SqL K H l (xs.map V.int)) (hn : xs.length ≤ 1000) (tab : H Pt = some (TabX Pt))
    (hw : ∀ x, wipe ((captS cm σ).set 0 (some x)) own = captS cm σ) (he : ∀ x ∈ xs, ∀ H1, Ex H H1 → Ev te ((captS cm σ).set 0 (some (.int x))) H1 (.bl (b x))) :
    Ev (tAnyG (tGx Pt (iList K tl) (gName 0) tYes te cm own)) σ H (.bl (xs.any b)) := fun H1 e Q q =>
  h H1 e _ fun H3 e13 => by
    have e03 := e.trans e13
    have hxl : (xs.map V.int).length = xs.length := List.length_map _
    refine ⟨l, rfl, ⟨_, ex_l e03 hx⟩, e03 Pt _ tab, fun i m zs H' => m + i = xs.length ∧ Ex H3 H' ∧ zs = (xs.take i).map fun x => V.bl (b x), ⟨xs.length, by omega, Ex.refl _, rfl⟩, ?_⟩
    rintro i m zs H' ⟨hm, e4, rfl⟩
    have e04 := e03.trans e4
    by_cases hi : i < xs.length
    · right
      refine ⟨⟨_, _, ex_l e04 hx, int_at hi⟩, fun zs H5 => (m - 1) + (i + 1) = xs.length ∧ Ex H3 H5 ∧ zs = (xs.take (i + 1)).map fun x => V.bl (b x), fun zs H5 q => ⟨m - 1, by omega, q⟩, ?_⟩
      rintro v H5 ⟨rfl, hx1⟩
      have ex1 := (Option.some.inj ((int_at hi).symm.trans (hx1 _ (ex_l e04 hx)))).symm
      subst ex1
      have hxi : xs.getD i 0 = xs[i] := by rw [List.getD_eq_getElem?_getD, List.getElem?_eq_getElem hi] <;> rfl
      have hmem : xs.getD i 0 ∈ xs := by rw [hxi]; exact List.getElem_mem hi
      have htk : xs.take (i + 1) = xs.take i ++ [xs.getD i 0] := by rw [hxi]; exact (List.take_append_getElem hi).symm
      refine ⟨hw _, tt_yes ?_⟩
      refine he _ hmem _ e04 _ (Ex.refl _) _ fun H7 e7 => ?_
      have hyes : b (xs.getD i 0) = true → xs.any b = true := fun z => List.any_eq_true.mpr ⟨_, hmem, z⟩
      refine ⟨sz_lt (by rw [List.length_map, List.length_take]; omega), ⟨_, rfl, fun z => ?_⟩, by omega, e4.trans e7, ?_⟩
      · have := hyes z
        rw [← this]
        exact q _ ((e13.trans e4).trans e7)
      · rw [htk, List.map_append]
        rfl
    · left
      have hin : i = xs.length := by omega
      subst hin
      refine ⟨⟨_, ex_l e04 hx, by rw [hxl]; exact Nat.le_refl _⟩, fun hno => ?_⟩
      rw [List.take_length] at hno
      have hr : xs.any b = false := by
        rw [List.any_eq_false]
        intro x hx2 hb
        exact hno _ (List.mem_map.mpr ⟨x, hx2, rfl⟩) (by rw [hb])
      rw [← hr]
      exact q H' (e13.trans e4)
end
end KC
set_option Elab.async false
set_option linter.all false
set_option maxRecDepth 100000
set_option maxHeartbeats 4000000
/-! Objects: methods by the kind of the receiver's class, instances made, attributes. -/
namespace KC
open PySem PySem.Spec PyProof.Rows L2 GX Evl

/-- a method by the kind of its receiver's class: the class of kind i stands at Cl i -/
structure MCal (P : Program) (w : World) (K : PySem.W.Frag) (mg : Str → Option Value) (base : Heap) (Cl : Nat → Addr) (Is : Nat → Prop) (m : Str) (k : Nat) (ps : List Str) (sp : Nat → Sp) : Prop where
  out : ∀ i, Is i → Cls K (Cl i) ∧ ∃ f fd, Meth K (Cl i) m f ∧ Binds K fd ps [] ∧ FnOk P w K mg base CX0 k f fd ps (sp i)
def tMethD (Cl : Nat → Addr) (Is : Nat → Prop) (m : Str) (sp : Nat → Sp) (ta : TE) (t : TA) : TE := fun σ H Q => ta σ H fun x H1 => ∃ i a dx fs, Is i ∧ x = .ref a ∧ H1 a = some (.ins (Cl i) dx fs) ∧ fs.lookup m = none ∧
  t σ H1 fun vs H2 => sp i (x :: (vs ++ [])) H2 Q E0
section
variable {X : Cx} {k : Nat} {Cl : Nat → Addr} {Is : Nat → Prop} {ps : List Str} {sp : Nat → Sp} {m : Str} {pos apos : Pos} {e o : Expr} {es : List Expr} {ta : TE} {t : TA}
theorem pe_methD {pl : Sem Bool} (he : PE X o ta) (M : MCal X.prog X.w X.K X.mg X.base Cl Is m k ps sp) (hr : Room k X.A) (ha : PA X (e :: es) t)
    (hst : starEach (e :: es) X.env = (false, eval e X.env) :: starEach es X.env := by rfl) (hpl : (backTo pos (starEach es X.env)).any (·.1) = false := by rfl)
    (ht : eval (.Call (.Attribute o m apos) (e :: es) [] pos) X.env = (do
      let ov ← eval o X.env
      standAt apos.atName
      let (f, first) ← holding [ov] (getMethod ov m pl)
      callWith pos f first (backTo pos (starEach (e :: es) X.env)) (backToKw pos (keywordEach [] X.env))) := by rfl) :
    PE X (.Call (.Attribute o m apos) (e :: es) [] pos) (tMethD Cl Is m sp ta t) := by
  refine ⟨fun pins s σ H Q I h => ?_⟩
  refine PySem.W.methodCall_KW (pl := pl) (thn (he.run pins s σ H _ I h) fun u s1 ⟨x, H1, I1, rx, i, a, dx, fs, hi, ex, ea, l, q⟩ => ?_) ht
  subst ex
  obtain rfl : u = Value.ref a := rx
  obtain ⟨c, f, fd, hm, hb, F⟩ := M.out i hi
  refine getmeth_ok I1 ea c hm l ?_
  refine PySem.W.callWith_K (first := [.ref a]) (h₀ := X.base) I1.ok.mod.kin hm.kp (thn (ha.run pos pins s1 σ H1 _ I1 q) fun us s2 ⟨vs, H2, I2, r, q2⟩ => ⟨I2.kIn, ?_⟩) hst hpl
  exact run_fn (us := .ref a :: us) (vs := .ref a :: vs) F hr hb .nil pass0 I2 (.cons rfl r) q2
theorem pe_methD0 {pl : Sem Bool} (he : PE X o ta) (M : MCal X.prog X.w X.K X.mg X.base Cl Is m k ps sp) (hr : Room k X.A)
    (ht : eval (.Call (.Attribute o m apos) [] [] pos) X.env = (do
      let ov ← eval o X.env
      standAt apos.atName
      let (f, first) ← holding [ov] (getMethod ov m pl)
      callWith pos f first (backTo pos (starEach [] X.env)) (backToKw pos (keywordEach [] X.env))) := by rfl) :
    PE X (.Call (.Attribute o m apos) [] [] pos) (tMethD Cl Is m sp ta tNil) := by
  refine ⟨fun pins s σ H Q I h => ?_⟩
  refine PySem.W.methodCall_KW (pl := pl) (thn (he.run pins s σ H _ I h) fun u s1 ⟨x, H1, I1, rx, i, a, dx, fs, hi, ex, ea, l, q⟩ => ?_) ht
  subst ex
  obtain rfl : u = Value.ref a := rx
  obtain ⟨c, f, fd, hm, hb, F⟩ := M.out i hi
  refine getmeth_ok I1 ea c hm l ?_
  exact PySem.W.callWith_K0 (first := [.ref a]) I1.kIn hm.kp (run_fn (us := [.ref a]) (vs := [.ref a]) F hr hb .nil pass0 I1 (.cons rfl .nil) q)
end
/-- a class called by its name -/
structure CalM (P : Program) (w : World) (K : PySem.W.Frag) (mg : Str → Option Value) (base : Heap) (nm : Str) (C : Addr) (k : Nat) (ps : List Str) (sp : Sp) : Prop where
  out : ∃ f fd, mg nm = some (.ref C) ∧ Mk K C f ∧ Binds K fd ps [] ∧ FnOk P w K mg base CX0 k f fd ps sp
theorem pe_makeC {X : Cx} {nm : Str} {C : Addr} {k : Nat} {ps : List Str} {sp : Sp} {p pos : Pos} {e : Expr} {es : List Expr} {t : TA} (M : CalM X.prog X.w X.K X.mg X.base nm C k ps sp) (hr : Room (k + 1) X.A) (hg : Gl X nm) (ha : PA X (e :: es) t)
    (hdb : (nm == ("__debug__" : Str)) = false := by decide) (he : starEach (e :: es) X.env = (false, eval e X.env) :: starEach es X.env := by rfl) (hpl : (backTo pos (starEach es X.env)).any (·.1) = false := by rfl) :
    PE X (.Call (.Name nm p) (e :: es) [] pos) (tMake C sp [] E0 t) := by
  obtain ⟨f, fd, h1, h2, h3, h4⟩ := M.out
  exact pe_make h2 h4 hr hg h1 h3 .nil pass0 ha hdb he hpl
/-- xs[i] of a list, the index from 0 -/
def rIxL0 (K : PySem.W.Frag) : R2 := fun x y H Q => ∃ p xs, ∃ (i : Nat), ∃ v, x = .ref p ∧ y = .int (i : Int) ∧ SqL K H p xs ∧ xs[i]? = some v ∧ Q v H
theorem get_list {X : Cx} : PGet X (rIxL0 X.K) := by
  intro pins s σ H x y v u Q I rx ry h
  obtain ⟨p, xs, i, z, rfl, rfl, hq, he, q⟩ := h
  cases rx
  obtain ⟨t, rfl⟩ := ry
  obtain ⟨its, r, pl, hz⟩ := I.list hq
  obtain ⟨w, ew, rw'⟩ := r.get he
  have hn := line63
  have hl := r.length
  have hi := (List.getElem?_eq_some_iff.mp he).1
  refine wpAny_getItem_list pl.isList (by omega) (by omega) (x := w) ?_ ⟨z, H, I, rw', q⟩
  simpa using ew

/-! ### readings -/
section
variable {K : PySem.W.Frag} {σ : L2.St} {H H' : Hp} {ta tb te tx : TE} {v x : V} {D : Ends} {tz : TS} {a C dx : Addr} {fs : List (Str × V)} {f : Str}
theorem ev_fld (ha : Ev ta σ H (.ref a)) (h : H a = some (.ins C dx fs)) (c : Cls K C) (n : NoAttr K C f) (l : fs.lookup f = some v) : Ev (tFld K ta f) σ H v := fun H1 e Q q =>
  ha H1 e _ fun H2 e2 => ⟨a, C, dx, fs, v, rfl, (e.trans e2) a _ h, c, n, l, q H2 e2⟩
theorem s_fld (hv : Ev te σ H v) (ha : Ev ta σ H (.ref a)) (h : H a = some (.ins C dx fs)) (c : Cls K C) (n : NoAttr K C f) (hl : fs.length < 1000) (k : ∀ H1, Ex H H1 → D.nx σ (upd H1 a (.ins C dx (putF f v fs)))) : sFld K ta te f D σ H :=
  hv H (Ex.refl H) _ fun H1 e1 => ha H1 e1 _ fun H2 e2 => ⟨a, C, dx, fs, rfl, (e1.trans e2) a _ h, c, n, hl, k H2 (e1.trans e2)⟩
theorem q_fld (hv : Ev te σ H v) (ha : Ev ta σ H (.ref a)) (h : H a = some (.ins C dx fs)) (c : Cls K C) (n : NoAttr K C f) (hl : fs.length < 1000) (k : ∀ H1, Ex H H1 → tz D σ (upd H1 a (.ins C dx (putF f v fs)))) : tSeq (sFld K ta te f) tz D σ H :=
  s_fld (D := { D with nx := tz D }) hv ha h c n hl k
theorem s_fldL {xs : List V} (hv : EvL te σ H xs) (ha : Ev ta σ H (.ref a)) (h : H a = some (.ins C dx fs)) (c : Cls K C) (n : NoAttr K C f) (hl : fs.length < 1000) (k : ∀ p H1, H p = none → Ex H H1 → H1 p = some (.lst xs) → D.nx σ (upd H1 a (.ins C dx (putF f (.ref p) fs)))) : sFld K ta te f D σ H :=
  hv H (Ex.refl H) _ fun p H1 hp e1 h1 => ha H1 e1 _ fun H2 e2 => ⟨a, C, dx, fs, rfl, (e1.trans e2) a _ h, c, n, hl, k p H2 hp (e1.trans e2) (e2 p _ h1)⟩
theorem q_fldL {xs : List V} (hv : EvL te σ H xs) (ha : Ev ta σ H (.ref a)) (h : H a = some (.ins C dx fs)) (c : Cls K C) (n : NoAttr K C f) (hl : fs.length < 1000) (k : ∀ p H1, H p = none → Ex H H1 → H1 p = some (.lst xs) → tz D σ (upd H1 a (.ins C dx (putF f (.ref p) fs)))) : tSeq (sFld K ta te f) tz D σ H :=
  s_fldL (D := { D with nx := tz D }) hv ha h c n hl k
theorem ev_meth {Cl : Nat → Addr} {Is : Nat → Prop} {m : Str} {sp : Nat → Sp} {t : TA} {i : Nat} {vs : List V} (ha : Ev ta σ H (.ref a)) (hi : Is i) (h : H a = some (.ins (Cl i) dx fs)) (l : fs.lookup m = none) (ht : EvA t σ H vs) (hs : SpV (sp i) (.ref a :: (vs ++ [])) H v) : Ev (tMethD Cl Is m sp ta t) σ H v := fun H1 e Q q =>
  ha H1 e _ fun H2 e2 => ⟨i, a, dx, fs, hi, rfl, (e.trans e2) a _ h, l, ht H2 (e.trans e2) _ fun H3 e3 => hs H3 ((e.trans e2).trans e3) Q (fun H4 e4 => q H4 ((e2.trans e3).trans e4)) E0⟩
theorem cutV_to (xs : List V) (n : Nat) : cutV xs none (some (n : Int)) = xs.take n := by
  unfold cutV
  rw [HT.sIx_none, HT.sIx_nat, List.drop_zero, Nat.sub_zero]
  by_cases h : n ≤ xs.length
  · rw [Nat.min_eq_left h]
  · rw [Nat.min_eq_right (by omega), List.take_of_length_le (Nat.le_refl _), List.take_of_length_le (by omega)]
theorem s_augS {to ti : TE} {l : Addr} {xs : List V} {s : Nat} {p q : Int} {g : Int → Int → Int} (hl : H l = some (.lst xs)) (ho : Ev to σ H (.ref l)) (hi : Ev ti σ H (.int (s : Int))) (hx : xs[s]? = some (.int p)) (he : Ev te σ H (.int q)) (k : ∀ H1, Ex H H1 → D.nx σ (upd H1 l (.lst (xs.set s (.int (g p q)))))) :
    tAugS to ti te (rIxL0 K) (ipI g) rSetL D σ H :=
  ho H (Ex.refl H) _ fun H1 e1 => hi H1 e1 _ fun H2 e2 => ⟨l, xs, s, _, rfl, rfl, sq_of ((e1.trans e2) l _ hl), hx, he H2 (e1.trans e2) _ fun H3 e3 => ⟨p, q, rfl, rfl, l, xs, (s : Int), s, rfl, rfl, ((e1.trans e2).trans e3) l _ hl, ixN_nat ((List.getElem?_eq_some_iff.mp hx).1), k H3 ((e1.trans e2).trans e3)⟩⟩
theorem q_augS {to ti : TE} {l : Addr} {xs : List V} {s : Nat} {p q : Int} {g : Int → Int → Int} (hl : H l = some (.lst xs)) (ho : Ev to σ H (.ref l)) (hi : Ev ti σ H (.int (s : Int))) (hx : xs[s]? = some (.int p)) (he : Ev te σ H (.int q)) (k : ∀ H1, Ex H H1 → tz D σ (upd H1 l (.lst (xs.set s (.int (g p q)))))) :
    tSeq (tAugS to ti te (rIxL0 K) (ipI g) rSetL) tz D σ H := s_augS (D := { D with nx := tz D }) hl ho hi hx he k
/-- it gives something that is so -/
def EvP (te : TE) (σ : L2.St) (H : Hp) (R : V → Hp → Prop) : Prop := ∀ H1, Ex H H1 → ∀ Q : VK, (∀ v H2, Ex H1 H2 → R v H2 → Q v H2) → te σ H1 Q
theorem s_retP {R : V → Hp → Prop} (h : EvP te σ H R) (k : ∀ v H1, Ex H H1 → R v H1 → D.rt v H1) : tRet te D σ H := h H (Ex.refl H) _ k
theorem s_asgP {i : Nat} {R : V → Hp → Prop} (h : EvP te σ H R) (k : ∀ v H1, Ex H H1 → R v H1 → D.nx (σ.set i (some v)) H1) : tAsg te (gName i) D σ H := h H (Ex.refl H) _ k
theorem q_asgP {i : Nat} {R : V → Hp → Prop} (h : EvP te σ H R) (k : ∀ v H1, Ex H H1 → R v H1 → tz D (σ.set i (some v)) H1) : tSeq (tAsg te (gName i)) tz D σ H := h H (Ex.refl H) _ k
theorem q_fldP {R : V → Hp → Prop} (hv : EvP te σ H R) (ha : Ev ta σ H (.ref a)) (h : H a = some (.ins C dx fs)) (c : Cls K C) (n : NoAttr K C f) (hl : fs.length < 1000) (k : ∀ v H1 H2, Ex H H1 → R v H1 → Ex H1 H2 → tz D σ (upd H2 a (.ins C dx (putF f v fs)))) : tSeq (sFld K ta te f) tz D σ H :=
  hv H (Ex.refl H) _ fun v H1 e1 r => ha H1 e1 _ fun H2 e2 => ⟨a, C, dx, fs, rfl, (e1.trans e2) a _ h, c, n, hl, k v H1 H2 e1 r e2⟩
/-- [e for x in range(n)] whose items are new objects -/
theorem ep_lcR1 {ta : TA} {j n : Nat} {vs : List Nat} {R : V → Hp → Prop} (h : EvA ta σ H [.int (n : Int)]) (hn : n ≤ 40000) (hw : ∀ x, wipe ((wipe σ vs).set j (some x)) vs = wipe σ vs) (Pv : Hp → Addr → Nat → Hp → Prop)
    (h0 : ∀ H1 Dl, Ex H H1 → H1 Dl = none → Pv H1 Dl 0 (upd H1 Dl (.lst [])))
    (hs : ∀ H1 Dl i H', Ex H H1 → H1 Dl = none → i < n → Pv H1 Dl i H' → te ((wipe σ vs).set j (some (.int (i : Int)))) H' fun y H4 => ∃ acc, H4 Dl = some (.lst acc) ∧ acc.length < sizeLine ∧ Pv H1 Dl (i + 1) (upd H4 Dl (.lst (acc ++ [y]))))
    (hd : ∀ H1 Dl H', Ex H H1 → H1 Dl = none → Pv H1 Dl n H' → Ex H1 H' ∧ R (.ref Dl) H') : EvP (tLc (iRng1 ta) (gName j) tYes te vs) σ H R := fun H0 e0 Q q =>
  h H0 e0 _ fun H1 e1 => ⟨(n : Int), rfl, by omega, by omega, fun Dl hD => lc_range (lo := 0) (n := n) (Pv H1 Dl) (h0 H1 Dl (e0.trans e1) hD) (fun i H' hi p => by
    have e2 : (0 : Int) + (i : Int) = (i : Int) := Int.zero_add _
    show wipe ((wipe σ vs).set j (some (.int ((0 : Int) + (i : Int))))) vs = wipe σ vs ∧ tYes ((wipe σ vs).set j (some (.int ((0 : Int) + (i : Int))))) H' fun b H3 => _
    rw [e2]
    exact ⟨hw _, tt_yes (hs H1 Dl i H' (e0.trans e1) hD hi p)⟩) fun H' p => by
      obtain ⟨e3, r⟩ := hd H1 Dl H' (e0.trans e1) hD p
      exact q _ H' (e1.trans e3) r⟩
theorem ev_methP {Cl : Nat → Addr} {Is : Nat → Prop} {m : Str} {sp : Nat → Sp} {t : TA} {i : Nat} {vs : List V} {R : V → Hp → Prop} (ha : Ev ta σ H (.ref a)) (hi : Is i) (h : H a = some (.ins (Cl i) dx fs)) (l : fs.lookup m = none) (ht : EvA t σ H vs)
    (hs : ∀ H1, Ex H H1 → ∀ Q : VK, (∀ v H2, Ex H1 H2 → R v H2 → Q v H2) → sp i (.ref a :: (vs ++ [])) H1 Q E0) : EvP (tMethD Cl Is m sp ta t) σ H R := fun H1 e Q q =>
  ha H1 e _ fun H2 e2 => ⟨i, a, dx, fs, hi, rfl, (e.trans e2) a _ h, l, ht H2 (e.trans e2) _ fun H3 e3 => hs H3 ((e.trans e2).trans e3) Q (fun v H4 e4 r => q v H4 ((e2.trans e3).trans e4) r)⟩
/-- C(..) -/
theorem ev_make {sp : Sp} {t : TA} {vs : List V} {R : V → Hp → Prop} (ht : EvA t σ H vs)
    (hs : ∀ H1 x dx, Ex H H1 → H1 x = none → H1 dx = none → dx ≠ x → ∀ Q : VK, (∀ H2, Ex H1 H2 → R (.ref x) H2 → Q .non H2) → sp (.ref x :: (vs ++ [])) (upd (upd H1 dx (.own x)) x (.ins C dx [])) Q E0) : EvP (tMake C sp [] E0 t) σ H R := fun H1 e Q q =>
  ht H1 e _ fun H2 e2 x dx nx nd ne => hs H2 x dx (e.trans e2) nx nd ne _ fun H3 e3 r => ⟨rfl, q _ H3 (e2.trans e3) r⟩
theorem made_ex {x : Addr} (nx : H x = none) (nd : H dx = none) : Ex H (upd (upd H dx (.own x)) x (.ins C dx [])) := fun b o e => by
  rw [upd_ne (ne_of_none e nx), upd_ne (ne_of_none e nd)]
  exact e
/-- the heap behind a change that touches only what stands at F -/
def Kp (F : Addr → Prop) (H H' : Hp) : Prop := ∀ b o, H b = some o → ¬ F b → H' b = some o
theorem Kp.of_ex {F : Addr → Prop} (e : Ex H H') : Kp F H H' := fun b o h _ => e b o h
theorem Kp.trans {F : Addr → Prop} {H1 H2 H3 : Hp} (a : Kp F H1 H2) (b : Kp F H2 H3) : Kp F H1 H3 := fun x o h n => b x o (a x o h n) n
theorem Kp.put {F : Addr → Prop} {p : Addr} {o : HO} (a : Kp F H H') (h : F p) : Kp F H (upd H' p o) := fun b u e n => by
  have hb : b ≠ p := fun z => by
    subst z
    exact n h
  rw [upd_ne hb]
  exact a b u e n
theorem Kp.mono {F G : Addr → Prop} (a : Kp F H H') (h : ∀ b o, F b → H b = some o → G b) : Kp G H H' := fun b o e n => a b o e fun f => n (h b o f e)
theorem Kp.ex {F : Addr → Prop} (a : Kp F H H') (h : ∀ b, F b → H b = none) : Ex H H' := fun b o e => a b o e fun f => by
  rw [h b f] at e
  cases e
/-- for i, x in enumerate(xs) -/
theorem s_forEn {tu : TS} {xs : List V} {j k : Nat} (h : Ev ta σ H (.ref a)) (hx : SqL K H a xs) (Pv : Nat → L2.St → Hp → Prop) (h0 : ∀ H1, Ex H H1 → Pv 0 σ H1) (hl : ∀ i σ' H', Pv i σ' H' → SqL K H' a xs)
    (hs : ∀ i x σ' H' H2, xs[i]? = some x → Pv i σ' H' → Ex H' H2 → tu { D with nx := Pv (i + 1), ct := Pv (i + 1), bk := D.nx } ((σ'.set j (some (.int (i : Int)))).set k (some x)) H2) (hd : ∀ σ' H', Pv xs.length σ' H' → D.nx σ' H') :
    tFor (iEnum K (tCons ta tNil)) (gTup K 2 (gCons (gName j) (gCons (gName k) gNil))) tu D σ H :=
  h H (Ex.refl H) _ fun H1 e => ⟨a, xs, rfl, ex_l e hx, fun i m σ' H' => m + i = xs.length ∧ Pv i σ' H', ⟨xs.length, by omega, h0 H1 e⟩, fun i m σ' H' ⟨hm, p⟩ => by
    by_cases hi : i < xs.length
    · right
      obtain ⟨v, hv⟩ : ∃ v, xs[i]? = some v := ⟨_, List.getElem?_eq_getElem hi⟩
      refine ⟨⟨xs, v, hl i σ' H' p, hv⟩, Pv (i + 1), fun σ2 H2 q => ⟨m - 1, by omega, by omega, q⟩, ?_⟩
      rintro x H5 ⟨t, v2, rfl, ht, rfl, hv2⟩
      have ev := Option.some.inj (hv.symm.trans (hv2 _ (hl i σ' H' p)))
      subst ev
      exact ⟨t, _, rfl, .inl (.inl upd_same), rfl, _, _, rfl, _, _, rfl, rfl, hs i v σ' H' _ hv p (Ex.new ht)⟩
    · left
      have e2 : i = xs.length := by omega
      subst e2
      exact ⟨⟨xs, hl _ σ' H' p, by omega⟩, hd σ' H' p⟩⟩
theorem q_forEn {tu : TS} {xs : List V} {j k : Nat} (h : Ev ta σ H (.ref a)) (hx : SqL K H a xs) (Pv : Nat → L2.St → Hp → Prop) (h0 : ∀ H1, Ex H H1 → Pv 0 σ H1) (hl : ∀ i σ' H', Pv i σ' H' → SqL K H' a xs)
    (hs : ∀ i x σ' H' H2, xs[i]? = some x → Pv i σ' H' → Ex H' H2 → tu { D with nx := Pv (i + 1), ct := Pv (i + 1), bk := tz D } ((σ'.set j (some (.int (i : Int)))).set k (some x)) H2) (hd : ∀ σ' H', Pv xs.length σ' H' → tz D σ' H') :
    tSeq (tFor (iEnum K (tCons ta tNil)) (gTup K 2 (gCons (gName j) (gCons (gName k) gNil))) tu) tz D σ H := s_forEn (D := { D with nx := tz D }) h hx Pv h0 hl hs hd
/-- if t: xs[j] = e -/
theorem q_ifSetL {t : TT} {b : Bool} {l : Addr} {xs ys : List V} {j : Nat} (hl : H l = some (.lst xs)) (h : EvT t σ H b) (he : b = true → Ev te σ H v) (ho : b = true → Ev ta σ H (.ref l)) (hi : b = true → Ev tb σ H (.int (j : Int))) (hj : b = true → j < xs.length) (hy : ys = if b = true then xs.set j v else xs)
    (k : ∀ H1, Kp (fun b => b = l) H H1 → (∀ x, H1 x = none → H x = none) → H1 l = some (.lst ys) → tz D σ H1) : tSeq (tIfS t (tAsg te (gSub ta tb rSetL)) tNext) tz D σ H := by
  refine q_when h (fun hb H1 e1 => ?_) (fun hb H1 e1 => ?_)
  · refine s_setL (e1 _ _ hl) ((he hb).mono e1) ((ho hb).mono e1) ((hi hb).mono e1) (hj hb) fun H2 e2 => k _ (Kp.put (Kp.of_ex (e1.trans e2)) rfl) (fun x hx => ?_) (by rw [upd_same, hy, if_pos hb])
    by_cases z : x = l
    · rw [z, upd_same] at hx
      cases hx
    · rw [upd_ne z] at hx
      exact fresh_back (e1.trans e2) hx
  · exact k H1 (Kp.of_ex e1) (fun x hx => fresh_back e1 hx) (by rw [hy, if_neg (by rw [hb]; decide)]; exact e1 _ _ hl)
theorem putF_putF {f : Str} {u v : V} : ∀ fs : List (Str × V), putF f v (putF f u fs) = putF f v fs
  | [] => by
    show (if f = f then [(f, v)] else (f, u) :: putF f v []) = [(f, v)]
    rw [if_pos rfl]
  | (g, y) :: r => by
    by_cases h : g = f
    · show putF f v (if g = f then (g, u) :: r else _) = (if g = f then (g, v) :: r else _)
      rw [if_pos h, if_pos h]
      show (if g = f then (g, v) :: r else _) = _
      rw [if_pos h]
    · show putF f v (if g = f then (g, u) :: r else (g, y) :: putF f u r) = (if g = f then (g, v) :: r else (g, y) :: putF f v r)
      rw [if_neg h, if_neg h]
      show (if g = f then (g, v) :: putF f u r else (g, y) :: putF f v (putF f u r)) = _
      rw [if_neg h, putF_putF r]
end
end KC
set_option Elab.async false
set_option linter.all false
set_option maxRecDepth 100000
set_option maxHeartbeats 4000000
/-! Dicts whose keys are tuples of ints and texts, made here or written in the text. -/
namespace KC
open PySem PySem.Spec PyProof.Rows L2 GX Evl
def DXp (P : Program) (w : World) (a : Addr) (xs : List (List Key × Addr × Value)) (o : Obj) (h : Heap) : Prop := xs.length ≤ sizeLine ∧ (a == sysModules) = false ∧
  ∃ es ep, h.get? a = some o ∧ o.ExactDict ∧ o.data = .dict es ep ∧ es.toList = xs.map (entryOfKey (tupleKind (mixKind P w))) ∧ (xs.map (·.1)).Nodup
abbrev DX (P : Program) (w : World) (a : Addr) (xs : List (List Key × Addr × Value)) (o : Obj) : HO := .ext (DXp P w a xs o)
abbrev KX (K : PySem.W.Frag) (H : Hp) : List (List Key × V) → List (List Key × Addr × Value) → Prop := Paired fun p q => p.1 = q.1 ∧ SqT K H q.2.1 (p.1.map kV) ∧ RelV p.2 q.2.2
def DAt (P : Program) (w : World) (K : PySem.W.Frag) (H : Hp) (a : Addr) (kvs : List (List Key × V)) : Prop := ∃ xs o, H a = some (DX P w a xs o) ∧ KX K H kvs xs
theorem KX.val {K : PySem.W.Frag} {H : Hp} {kvs : List (List Key × V)} {xs : List (List Key × Addr × Value)} (r : KX K H kvs xs) (k : List Key) : RelO (valV kvs k) ((atKey xs k).map (·.2)) := by
  induction r with
  | nil => exact True.intro
  | @cons p q ps qs h t ih =>
    obtain ⟨h1, _, h2⟩ := h
    by_cases e : p.1 = k
    · have e' : q.1 = k := h1.symm.trans e
      have b : atKey (q :: qs) k = some q.2 := by simp [atKey, List.find?_cons, e']
      rw [valV_pos e, b]; exact h2
    · have e' : ¬ q.1 = k := fun z => e (h1.trans z)
      have b : atKey (q :: qs) k = atKey qs k := by simp [atKey, List.find?_cons, e']
      rw [valV_neg e, b]; exact ih
theorem KX.repl {K : PySem.W.Frag} {H : Hp} {kvs : List (List Key × V)} {xs : List (List Key × Addr × Value)} (r : KX K H kvs xs) (k : List Key) {y : V} {u : Value} (ry : RelV y u) :
    KX K H (kvs.map fun kv => if kv.1 = k then (kv.1, y) else kv) (xs.map (putAt k u)) := by
  induction r with
  | nil => exact .nil
  | @cons p q ps qs h t ih =>
    rw [List.map_cons, List.map_cons]
    refine .cons ?_ ih
    obtain ⟨h1, h2, h3⟩ := h
    unfold putAt
    by_cases e : p.1 = k
    · rw [if_pos e, if_pos (h1.symm.trans e)]; exact ⟨h1, h2, ry⟩
    · rw [if_neg e, if_neg (fun z => e (h1.trans z))]; exact ⟨h1, h2, h3⟩
theorem KX.put {K : PySem.W.Frag} {H : Hp} {kvs : List (List Key × V)} {xs : List (List Key × Addr × Value)} (r : KX K H kvs xs) (k : List Key) {b : Addr} {y : V} {u : Value} (hb : SqT K H b (k.map kV)) (ry : RelV y u) :
    KX K H (putK kvs k y) (storedH xs k b u) := by
  have e : (kvs.any fun kv => decide (kv.1 = k)) = (atKey xs k).isSome := by
    rw [valV_any, (r.val k).isSome_eq, Option.isSome_map]
  unfold putK storedH
  rw [e]
  by_cases q : (atKey xs k).isSome = true
  · rw [if_pos q, if_pos q]; exact r.repl k ry
  · rw [if_neg q, if_neg q]; exact Paired.snoc r ⟨rfl, hb, ry⟩
theorem KX.keeps {K : PySem.W.Frag} {H H' : Hp} {kvs : List (List Key × V)} {xs : List (List Key × Addr × Value)} (r : KX K H kvs xs) (ht : ∀ b ys, SqT K H b ys → SqT K H' b ys) : KX K H' kvs xs :=
  Paired.mapP r fun _ _ z => ⟨z.1, ht _ _ z.2.1, z.2.2⟩
theorem DAt.ext {P : Program} {w : World} {K : PySem.W.Frag} {H H' : Hp} {a : Addr} {kvs : List (List Key × V)} (e : Ex H H') (h : DAt P w K H a kvs) : DAt P w K H' a kvs := by
  obtain ⟨xs, o, h1, h2⟩ := h
  exact ⟨xs, o, e _ _ h1, h2.keeps fun b ys z => ex_t e z⟩
theorem sqt_ext {K : PySem.W.Frag} {H : Hp} {a b : Addr} {ys : List V} {φ : Heap → Prop} {o : HO} (h : SqT K H b ys) (e : H a = some (.ext φ)) : SqT K (upd H a o) b ys := by
  rcases h with (h | ⟨ob, h⟩) | h
  · exact .inl (.inl (by rw [upd_ne (fun z => by rw [z, e] at h; cases h)]; exact h))
  · exact .inl (.inr ⟨ob, by rw [upd_ne (fun z => by rw [z, e] at h; cases h)]; exact h⟩)
  · exact .inr h
section
variable {X : Cx} {pins : List (Addr × Obj)} {σ : L2.St} {H : Hp} {s : Shared} {a b : Addr} {kvs : List (List Key × V)} {xs : List (List Key × Addr × Value)} {k : List Key} {v : V} {r : Value} {A : Around} {E : Value → Shared → Prop}
theorem key_ofX (I : Inv X pins σ H s) (h : SqT X.K H b (k.map kV)) : (tupleKind (mixKind X.prog X.w)).is s.heap k b := by
  obtain ⟨its, r, ⟨o, h1, h2, n, h3⟩, _⟩ := I.tuple h
  exact ⟨o, its.toArray, n, h1, h2, h3, by simpa using items_are r⟩
theorem dx_heap {o : Obj} (I : Inv X pins σ H s) (e : H a = some (DX X.prog X.w a xs o)) (r : KX X.K H kvs xs) : xs.length ≤ sizeLine ∧ (a == sysModules) = false ∧ s.heap.DictOfH (tupleKind (mixKind X.prog X.w)) a xs := by
  obtain ⟨z, y, es, ep, h1, h2, h3, h4, h5⟩ := (show DXp X.prog X.w a xs o s.heap from (show ObjOk X.prog X.w H s.heap a (DX X.prog X.w a xs o) from I.hok a _ e).1)
  refine ⟨z, y, o, es, ep, h1, h2, h3, h4, fun x hx => ?_, h5⟩
  have all : ∀ {l : List (List Key × V)} {m : List (List Key × Addr × Value)}, KX X.K H l m → ∀ x ∈ m, (tupleKind (mixKind X.prog X.w)).is s.heap x.1 x.2.1 := by
    intro l m q
    induction q with
    | nil => intro x hx; exact nomatch hx
    | @cons p q ps qs hq t ih =>
      intro x hx
      rcases List.mem_cons.mp hx with e | hx
      · subst e
        exact key_ofX I (by rw [← hq.1]; exact hq.2.1)
      · exact ih x hx
  exact all r x hx
theorem dx_ok {P : Program} {w : World} {o : Obj} {H' : Hp} {h' : Heap} (h : DXp P w a xs o h') : ObjOk P w H' h' a (DX P w a xs o) := by
  obtain ⟨z, y, es, ep, h1, h2⟩ := id h
  refine ⟨h, ⟨o, h1⟩, fun g1 g2 ⟨z, y, es, ep, k1, k2⟩ st => ⟨z, y, es, ep, st o k1, k2⟩⟩
theorem dx_getItem {Q : Value → Shared → Prop} (hu : A.units + 1 < cLine) (I : Inv X pins σ H s) (g : DAt X.prog X.w X.K H a kvs) (hb : SqT X.K H b (k.map kV)) (l : valV kvs k = some v) (h : ∀ w' s', Inv X pins σ H s' → RelV v w' → Q w' s') :
    wpAny (model X.prog X.w) A (getItem (.ref a) (.ref b)) Q E s := by
  obtain ⟨xs, o, e, rel⟩ := g
  obtain ⟨z, hd, dd⟩ := dx_heap I e rel
  obtain ⟨w', hw, rw'⟩ := RelO.some_of (v := v) (o := (atKey xs k).map (·.2)) (by rw [← l]; exact rel.val k)
  obtain ⟨p, hp, hp2⟩ := Option.map_eq_some_iff.mp hw
  refine wpAny_getItem_heap (tupleKind_room_in1 hu) (key_ofX I hb) dd hp ?_
  rw [hp2]
  exact h w' _ (I.tok _) rw'
theorem dx_notIn {Q : Value → Shared → Prop} (hu : A.units + 1 < cLine) (I : Inv X pins σ H s) (g : DAt X.prog X.w X.K H a kvs) (hb : SqT X.K H b (k.map kV)) (h : ∀ s', Inv X pins σ H s' → Q (.bool (!(valV kvs k).isSome)) s') :
    wpAny (model X.prog X.w) A (compareOp .NotIn (.ref b) (.ref a)) Q E s := by
  obtain ⟨xs, o, e, rel⟩ := g
  obtain ⟨z, hd, dd⟩ := dx_heap I e rel
  refine wpAny_notIn_heap (tupleKind_room_in1 hu) (key_ofX I hb) hd dd ?_
  have q := (rel.val k).isSome_eq
  rw [Option.isSome_map] at q
  rw [← q]
  exact h _ (I.tok _)
theorem dx_in {Q : Value → Shared → Prop} (hu : A.units + 1 < cLine) (I : Inv X pins σ H s) (g : DAt X.prog X.w X.K H a kvs) (hb : SqT X.K H b (k.map kV)) (h : ∀ s', Inv X pins σ H s' → Q (.bool (valV kvs k).isSome) s') :
    wpAny (model X.prog X.w) A (compareOp .In (.ref b) (.ref a)) Q E s := by
  obtain ⟨xs, o, e, rel⟩ := g
  obtain ⟨z, hd, dd⟩ := dx_heap I e rel
  refine wpAny_in_heap (tupleKind_room_in1 hu) (key_ofX I hb) hd dd ?_
  have q := (rel.val k).isSome_eq
  rw [Option.isSome_map] at q
  rw [← q]
  exact h _ (I.tok _)
theorem dx_setItem {Q : Unit → Shared → Prop} (hu : A.units + 1 < cLine) (I : Inv X pins σ H s) (g : DAt X.prog X.w X.K H a kvs) (hb : SqT X.K H b (k.map kV)) (hl : kvs.length < sizeLine) (rv : RelV v r)
    (h : ∀ H' s', DAt X.prog X.w X.K H' a (putK kvs k v) → (∀ c, c ≠ a → H' c = H c) → Inv X pins σ H' s' → Q () s') : wpAny (model X.prog X.w) A (setItem (.ref a) (.ref b) r) Q E s := by
  obtain ⟨xs, o, e, rel⟩ := g
  obtain ⟨z, hd, dd⟩ := dx_heap I e rel
  have hz : xs.length ≤ sizeLine := z
  have hl2 := Paired.length rel
  refine wpAny_setItem_heap (hsz := hz) (tupleKind_room_in1 hu) (key_ofX I hb) dd fun h' dd' hs => ?_
  obtain ⟨q, es, ep, hq, h2, h3, h4, _, h5⟩ := dd'
  have rel2 := rel.put k hb rv
  have hl3 : (storedH xs k b r).length ≤ sizeLine := by
    have := Paired.length rel2
    have := length_putK kvs k v
    omega
  refine h (upd H a (DX X.prog X.w a (storedH xs k b r) q)) _ ⟨_, _, upd_same, rel2.keeps fun c ys ec => sqt_ext ec e⟩ (fun c hc => upd_ne hc) ?_
  exact d_write I (by rw [e]; exact True.intro) hs ⟨q, hq⟩ (dx_ok ⟨hl3, hd, es, ep, hq, h2, h3, h4, h5⟩)
end
/-! ### readings and rules -/
def newD : Obj := { cls := .type "dict", data := .dict #[] }
def tDNewX (P : Program) (w : World) : TE := fun _ H Q => ∀ p, H p = none → Q (.ref p) (upd H p (DX P w p [] newD))
def tDGetX (P : Program) (w : World) (K : PySem.W.Frag) (td ty : TE) : TE := fun σ H Q => td σ H fun x H1 => ty σ H1 fun y H2 => ∃ a kvs b k v, x = .ref a ∧ y = .ref b ∧ DAt P w K H2 a kvs ∧ SqT K H2 b (k.map kV) ∧ valV kvs k = some v ∧ Q v H2
def tDNotInX (P : Program) (w : World) (K : PySem.W.Frag) (ty td : TE) : TE := fun σ H Q => ty σ H fun y H1 => td σ H1 fun x H2 => ∃ a kvs b k, x = .ref a ∧ y = .ref b ∧ DAt P w K H2 a kvs ∧ SqT K H2 b (k.map kV) ∧ Q (.bl (!(valV kvs k).isSome)) H2
def tDInX (P : Program) (w : World) (K : PySem.W.Frag) (ty td : TE) : TE := fun σ H Q => ty σ H fun y H1 => td σ H1 fun x H2 => ∃ a kvs b k, x = .ref a ∧ y = .ref b ∧ DAt P w K H2 a kvs ∧ SqT K H2 b (k.map kV) ∧ Q (.bl (valV kvs k).isSome) H2
def sDPutX (P : Program) (w : World) (K : PySem.W.Frag) (td ty tv : TE) : TS := fun D σ H => tv σ H fun v H1 => td σ H1 fun x H2 => ty σ H2 fun y H3 => ∃ a kvs b k, x = .ref a ∧ y = .ref b ∧ DAt P w K H3 a kvs ∧ SqT K H3 b (k.map kV) ∧ kvs.length < sizeLine ∧
  ∀ H4, DAt P w K H4 a (putK kvs k v) → (∀ c, c ≠ a → H4 c = H3 c) → D.nx σ H4
section
variable {X : Cx} {P : Program} {w : World} {K : PySem.W.Frag} {o i value : Expr} {pos pos' : Pos} {td ty tv : TE}
theorem pe_dnewX (hX : X.prog = P ∧ X.w = w ∧ X.K = K) : PE X (.Dict [] [] pos) (tDNewX P w) := by
  obtain ⟨rfl, rfl, rfl⟩ := hX
  refine ⟨fun pins s σ H Q I h => wpAny_Dict_empty ⟨.ref s.heap.objs.size, _, I.laid (a := s.heap.objs.size) (o := DX X.prog X.w s.heap.objs.size [] newD) (t' := s.toks) (fun _ _ q => Heap.get?_push_of_some _ q) (Nat.le_refl _) (dx_ok ?_), rfl, h _ (I.hok.fresh (Nat.le_refl _))⟩⟩
  exact ⟨Nat.zero_le _, beq_eq_false_iff_ne.mpr (Ne.symm (Nat.ne_of_lt I.big)), #[], 0, Heap.get?_push_size _ rfl, ⟨rfl, rfl, rfl⟩, rfl, rfl, List.nodup_nil⟩
theorem dx_typeIs {pins : List (Addr × Obj)} {σ : L2.St} {H : Hp} {s : Shared} {a : Addr} {kvs : List (List Key × V)} (I : Inv X pins σ H s) (g : DAt X.prog X.w X.K H a kvs) : s.TypeIs (.ref a) "dict" := by
  obtain ⟨xs, o, e, rel⟩ := g
  obtain ⟨_, _, dd⟩ := dx_heap I e rel
  exact dd.typeIs
theorem pe_dgx (hX : X.prog = P ∧ X.w = w ∧ X.K = K) (hu : X.A.units + 1 < cLine) (ho : PE X o td) (hi : PE X i ty) (hs : NoSl i) : PE X (.Subscript o i pos) (tDGetX P w K td ty) := by
  obtain ⟨rfl, rfl, rfl⟩ := hX
  refine ⟨fun pins s σ H Q I h => ?_⟩
  refine subD_of PySem.F.slot_dict_getitem.lookup hs (thn (ho.run pins s σ H _ I h) fun u s1 ⟨x, H1, I1, rx, q1⟩ => thn (hi.run pins s1 σ H1 _ I1 q1) fun iv s2 ⟨y, H2, I2, ry, a, kvs, b, k, v, ex, ey, g, hb, l, q2⟩ => ?_)
  subst ex ey
  obtain rfl : u = Value.ref a := rx
  obtain rfl : iv = Value.ref b := ry
  exact ⟨dx_typeIs I2 g, dx_getItem hu I2 g hb l fun w' s3 I3 rw' => ⟨v, H2, I3, rw', q2⟩⟩
theorem pc_dnotinX (hX : X.prog = P ∧ X.w = w ∧ X.K = K) (hu : X.A.units + 1 < cLine) (hi : PE X i ty) (ho : PE X o td) : PC X .NotIn i o (tDNotInX P w K ty td) := by
  obtain ⟨rfl, rfl, rfl⟩ := hX
  refine ⟨fun pins s σ H Q I h => ?_⟩
  refine thn (hi.run pins s σ H _ I h) fun iv s1 ⟨y, H1, I1, ry, q1⟩ => thn (ho.run pins s1 σ H1 _ I1 q1) fun u s2 ⟨x, H2, I2, rx, a, kvs, b, k, ex, ey, g, hb, q2⟩ => ?_
  subst ex ey
  obtain rfl : u = Value.ref a := rx
  obtain rfl : iv = Value.ref b := ry
  exact dx_notIn hu I2 g hb fun s3 I3 => ⟨.bl _, H2, I3, rfl, q2⟩
theorem pc_dinX (hX : X.prog = P ∧ X.w = w ∧ X.K = K) (hu : X.A.units + 1 < cLine) (hi : PE X i ty) (ho : PE X o td) : PC X .In i o (tDInX P w K ty td) := by
  obtain ⟨rfl, rfl, rfl⟩ := hX
  refine ⟨fun pins s σ H Q I h => ?_⟩
  refine thn (hi.run pins s σ H _ I h) fun iv s1 ⟨y, H1, I1, ry, q1⟩ => thn (ho.run pins s1 σ H1 _ I1 q1) fun u s2 ⟨x, H2, I2, rx, a, kvs, b, k, ex, ey, g, hb, q2⟩ => ?_
  subst ex ey
  obtain rfl : u = Value.ref a := rx
  obtain rfl : iv = Value.ref b := ry
  exact dx_in hu I2 g hb fun s3 I3 => ⟨.bl _, H2, I3, rfl, q2⟩
theorem ps_dputX (hX : X.prog = P ∧ X.w = w ∧ X.K = K) (hu : X.A.units + 1 < cLine) (ho : PE X o td) (hi : PE X i ty) (hv : PE X value tv) (hs : swapsWith value (some (.Subscript o i pos')) pos.line X.env = pure false) :
    PS X (.Assign [.Subscript o i pos'] value pos) (sDPutX P w K td ty tv) := by
  obtain ⟨rfl, rfl, rfl⟩ := hX
  refine ⟨fun pins s σ H D I h => ?_⟩
  refine wpAny_Assign_Subscript (thn (hv.run pins s σ H _ I h) fun r s1 ⟨v, H1, I1, rv, q1⟩ => thn (ho.run pins s1 σ H1 _ I1 q1) fun u s2 ⟨x, H2, I2, rx, q2⟩ => thn (hi.run pins s2 σ H2 _ I2 q2) fun iv s3 ⟨y, H3, I3, ry, a, kvs, b, k, ex, ey, g, hb, hl, q3⟩ => ?_) hs
  subst ex ey
  obtain rfl : u = Value.ref a := rx
  obtain rfl : iv = Value.ref b := ry
  exact dx_setItem hu I3 g hb hl rv fun H4 s4 d4 k4 I4 => ⟨σ, H4, I4, q3 H4 d4 k4⟩
end
/-- the key tuples of a dict, in order -/
def IsKeysX (K : PySem.W.Frag) (H : Hp) (kvs : List (List Key × V)) (bs : List Addr) : Prop := Paired (fun p b => SqT K H b (p.1.map kV)) kvs bs
theorem isKeysX_of {K : PySem.W.Frag} {H : Hp} {kvs : List (List Key × V)} {xs : List (List Key × Addr × Value)} (r : KX K H kvs xs) : IsKeysX K H kvs (xs.map fun x => x.2.1) := by
  unfold IsKeysX
  induction r with
  | nil => exact Paired.nil
  | cons h t ih => exact Paired.cons h.2.1 ih
section
variable {X : Cx}
theorem call_list_dX (hc : X.calm = true) : CallR X (.type "list") (fun xs H Q => ∃ d kvs, xs = [V.ref d] ∧ DAt X.prog X.w X.K H d kvs ∧ ∀ p bs, H p = none → IsKeysX X.K H kvs bs → Q (.ref p) (upd H p (.lst (bs.map V.ref)))) := by
  intro pins s σ H xs us Q I r h
  obtain ⟨d, kvs, rfl, ⟨ks, o, hd, pr⟩, q⟩ := h
  obtain ⟨u, rfl, rx⟩ := r.one
  cases rx
  obtain ⟨z, hs, es, ep, ho, hx, hdt, he, hn⟩ := (show DXp X.prog X.w d ks o s.heap from (show ObjOk X.prog X.w H s.heap d (DX X.prog X.w d ks o) from I.hok d _ hd).1)
  have l1 : es.size = ks.length := size_of_entries he
  refine PySem.W.kdl_call (kdl_raw hs hx hdt) (I.ok.hd hc) ho (by omega) fun h' tk acc' c' kp e it => ?_
  have ea : acc'.toList = ks.map fun x => Value.ref x.2.1 := by
    have hl : acc'.toList.length = ks.length := by rw [Array.length_toList, it.1]; exact l1
    apply List.ext_getElem?
    intro j
    rw [List.getElem?_map]
    cases hj : acc'.toList[j]? with
    | none =>
      have h1 := List.getElem?_eq_none_iff.mp hj
      rw [List.getElem?_eq_none (by omega)]
      all_goals rfl
    | some v =>
      obtain ⟨en, hen, hv⟩ := it.2 j v (by rw [← Array.getElem?_toList]; exact hj)
      have qe := entry_at he j
      rw [hen] at qe
      cases hb : ks[j]? with
      | none =>
        rw [hb] at qe
        exact nomatch (show some en = none from qe)
      | some b =>
        rw [hb] at qe
        have e2 : en = entryOfKey (tupleKind (mixKind X.prog X.w)) b := Option.some.inj qe
        rw [hv, e2]
        all_goals rfl
  have eb : acc'.toList = (ks.map fun x => x.2.1).map Value.ref := by rw [ea, List.map_map]; all_goals rfl
  have rv : Vals ((ks.map fun x => x.2.1).map V.ref) acc'.toList := by rw [eb]; exact vals_refs _
  have hz : ((ks.map fun x => x.2.1).map V.ref).length ≤ sizeLine := by rw [List.length_map, List.length_map]; omega
  refine ⟨.ref s.heap.objs.size, _, I.laid (t' := tk) (o := .lst ((ks.map fun x => x.2.1).map V.ref)) kp (Nat.le_refl _) ?_, rfl, q _ _ (I.hok.fresh (Nat.le_refl _)) (isKeysX_of pr)⟩
  exact ⟨hz, acc'.toList, c', rv, by rw [Array.toArray_toList]; exact e⟩
end
/-! ### what they give -/
section
variable {P : Program} {w : World} {K : PySem.W.Frag} {σ : L2.St} {H : Hp} {td ty tv : TE} {D : Ends} {tz : TS} {a b : Addr} {kvs : List (List Key × V)} {k : List Key} {v : V}
theorem ev_dgx (h1 : Ev td σ H (.ref a)) (h2 : Ev ty σ H (.ref b)) (g : DAt P w K H a kvs) (hb : SqT K H b (k.map kV)) (l : valV kvs k = some v) : Ev (tDGetX P w K td ty) σ H v := fun H1 e Q q =>
  h1 H1 e _ fun H2 e2 => h2 H2 (e.trans e2) _ fun H3 e3 => ⟨a, kvs, b, k, v, rfl, rfl, g.ext ((e.trans e2).trans e3), ex_t ((e.trans e2).trans e3) hb, l, q H3 (e2.trans e3)⟩
theorem ev_dnotinX (h2 : Ev ty σ H (.ref b)) (h1 : Ev td σ H (.ref a)) (g : DAt P w K H a kvs) (hb : SqT K H b (k.map kV)) : Ev (tDNotInX P w K ty td) σ H (.bl (!(valV kvs k).isSome)) := fun H1 e Q q =>
  h2 H1 e _ fun H2 e2 => h1 H2 (e.trans e2) _ fun H3 e3 => ⟨a, kvs, b, k, rfl, rfl, g.ext ((e.trans e2).trans e3), ex_t ((e.trans e2).trans e3) hb, q H3 (e2.trans e3)⟩
theorem ep_dnewX : EvP (tDNewX P w) σ H (fun v H' => ∃ p, v = .ref p ∧ H p = none ∧ DAt P w K H' p []) := fun H1 e Q q p hp => q _ _ (Ex.new hp) ⟨p, rfl, fresh_back e hp, [], _, upd_same, .nil⟩
end
end KC
set_option Elab.async false
set_option linter.all false
set_option maxRecDepth 100000
set_option maxHeartbeats 4000000
/-! min(.., default=None); sorted of a dict with keys of ints; == of such dicts. -/
namespace KC
open PySem PySem.Spec PyProof.Rows L2 GX Evl
def minO : List Int → V
  | [] => .non
  | n :: ns => .int (ns.foldl min n)
def rMinN (K : PySem.W.Frag) : List V → List V → Hp → VK → Prop := fun xs zs H Q => ∃ (l : Addr) (ns : List Int), xs = [.ref l] ∧ zs = [.non] ∧ SqL K H l (ns.map V.int) ∧ Q (minO ns) H
theorem depthAll_ints : ∀ ns : List Int, PyData.depthAll (ns.map PyData.int) = 0
  | [] => rfl
  | n :: ns => by
    rw [List.map_cons]
    show max 0 (PyData.depthAll (ns.map PyData.int)) = 0
    rw [depthAll_ints ns]
    rfl
theorem alike_ints (ns : List Int) : PySem.W.AlikeAll (ns.map PyData.int) := by
  refine ⟨fun x hx y hy => ?_, fun x hx => ?_⟩
  · obtain ⟨i, _, rfl⟩ := List.mem_map.mp hx
    obtain ⟨j, _, rfl⟩ := List.mem_map.mp hy
    rfl
  · obtain ⟨i, _, rfl⟩ := List.mem_map.mp hx
    exact fun z => nomatch z
section
variable {X : Cx}
theorem cr_minN (hc : X.calm = true) (hu : X.A.units + 64 < cLine) : CallRK X (.builtin "min") [Str.ofString "default"] (rMinN X.K) := by
  intro pins s σ H xs zs us ws Q I r rz h
  obtain ⟨l, ns, rfl, rfl, hs, q⟩ := h
  obtain ⟨its, rv, hl, hz⟩ := I.list hs
  obtain ⟨u, rfl, ru⟩ := vals1 r
  obtain ⟨d, rfl, rd⟩ := vals1 rz
  cases ru
  cases rd
  obtain ⟨as, hr⟩ := Dp.readsAll I (ns.map PyData.int) _ its (dpAll_ints ns) rv
  refine PySem.W.min_list_default (I.ok.hd hc) hl.isList (by simpa using hr) (alike_ints ns) (by rw [depthAll_ints]; omega) (fun e h' tk k => ?_) (fun y ys i v h' tk bs e hi rd k => ?_)
  · have e2 : ns = [] := by simpa using e
    subst e2
    exact ⟨.non, H, I.kept k, rfl, q⟩
  · cases ns with
    | nil => simp at e
    | cons n ns =>
      rw [List.map_cons] at e
      injection e with e1 e2
      subst e1 e2
      rw [PySem.W.minD_ints] at rd
      cases rd with
      | int => exact ⟨.int _, H, I.kept k, ⟨_, rfl⟩, q⟩
end
/-! ### sorted(d) -/
section
variable {prog : Program} {w : World} {A : Around} {E : Value → Shared → Prop} {s : Shared}
theorem ints_of_items : ∀ {ns : List Int} {vs : List Value}, ItemsAre (mixKind prog w) (ns.map Sum.inl) vs → IntsAre vs ns
  | [], _, h => by cases h; exact .nil
  | n :: ns, _, h => by
    cases h with
    | cons h1 h2 =>
      rcases keyIs_shape (show keyIs (Sum.inl n) _ = true from h1) with ⟨i, t, ek, ev⟩ | ⟨z, t, ek, ev⟩
      · injection ek with ek
        subst ek ev
        exact .cons _ _ (ints_of_items h2)
      · exact nomatch ek
def IsTl (h : Heap) (v : Value) (ns : List Int) : Prop := ∃ a o items n, v = .ref a ∧ h.get? a = some o ∧ o.cls = .type "tuple" ∧ o.data = .seq items n ∧ IntsAre items.toList ns
theorem IsTl.keeps {h h' : Heap} {v : Value} {ns : List Int} (p : IsTl h v ns) (k : ∀ b o, h.get? b = some o → o.cls = .type "tuple" → h'.get? b = some o) : IsTl h' v ns := by
  obtain ⟨a, o, t, n, e, ho, hc, hd, hi⟩ := p
  exact ⟨a, o, t, n, e, k _ _ ho hc, hc, hd, hi⟩
theorem lex_tl {Q : Bool → Shared → Prop} : ∀ (vs ws : List Value) (ns ms : List Int) (i : Nat), IntsAre vs ns → IntsAre ws ms → ns.length = ms.length → Q (HT.lexLt ns ms) s → PySem.W.KatLex prog w A true false Q (vs.zip ws) i s
  | _, _, [], [], i, .nil, .nil, _, h => PySem.W.kat_nil h
  | _, _, [], _ :: _, _, _, _, hl, _ => by simp at hl
  | _, _, _ :: _, [], _, _, _, hl, _ => by simp at hl
  | _, _, n :: ns, m :: ms, i, .cons _ t h1, .cons _ u h2, hl, h => by
    rw [List.zip_cons_cons]
    rw [HT.lexLt_cons] at h
    refine PySem.W.kat_cons (SeqAt.EqAt.int_int n t m u prog w _ _ ?_)
    refine PySem.W.kat_go (fun e => ?_) (fun e => ?_)
    · have e : n = m := by simpa using e
      rw [if_pos e] at h
      exact PySem.W.kat_yes (lex_tl _ _ ns ms (i + 1) h1 h2 (by simpa using hl) h)
    · have e : ¬ n = m := by simpa using e
      rw [if_neg e] at h
      exact PySem.W.kat_no (TS.oneLt_ints _ h)
theorem tl_cmp {vs : List Value} {k : Value → List Int} {d : Nat} (hp : ∀ v ∈ vs, IsTl s.heap v (k v) ∧ (k v).length = d) : SrtO.Cmp prog w A s (tuples' true) (fun p => p.1 ∈ vs) (SrtO.lt2 fun v u => HT.lexLt (k v) (k u)) := by
  intro p q hm hm'
  obtain ⟨h1, l1⟩ := hp _ hm
  obtain ⟨h2, l2⟩ := hp _ hm'
  show wpAny (model prog w) A (keyLt' (tuples' true) p.1 q.1) (fun r s' => s' = s ∧ r = HT.lexLt (k p.1) (k q.1)) (fun _ _ => False) s
  generalize k p.1 = ns at h1 l1 ⊢
  generalize k q.1 = ms at h2 l2 ⊢
  obtain ⟨a, o, xs, n, e, ho, hc, hd, hi⟩ := h1
  obtain ⟨a', o', ys, n', e', ho', hc', hd', hi'⟩ := h2
  rw [e, e']
  refine PySem.W.kat_lt ho hd ho' hd' ?_
  have z1 : xs.size = ns.length := by rw [← hi.length]; simp
  have z2 : ys.size = ms.length := by rw [← hi'.length]; simp
  have ef : decide (xs.size < ys.size) = false := decide_eq_false (by omega)
  rw [ef]
  exact lex_tl _ _ ns ms 0 hi hi' (by omega) ⟨rfl, rfl⟩
theorem firsts_tl {h : Heap} {k : Value → List Int} : ∀ {vs : List Value}, (∀ v ∈ vs, IsTl h v (k v) ∧ 1 ≤ (k v).length) → ∃ fs : List Value, PySem.W.KatTups h vs fs ∧ fs.length = vs.length ∧ ∀ f ∈ fs, ∃ x t, f = Value.int x t
  | [], _ => ⟨[], PySem.W.KatTups.nil, rfl, fun _ hm => by simp at hm⟩
  | v :: vs, hp => by
    obtain ⟨fs, h1, h2, h3⟩ := firsts_tl (vs := vs) fun v' hm => hp v' (List.mem_cons_of_mem _ hm)
    obtain ⟨⟨a, o, xs, n, e, ho, hc, hd, hi⟩, hl⟩ := hp v (List.mem_cons_self ..)
    generalize k v = ns at hi hl
    subst e
    obtain ⟨ys⟩ := xs
    cases hi with
    | nil => simp at hl
    | cons x t hi =>
      refine ⟨.int x t :: fs, PySem.W.KatTups.cons ho hc hd rfl h1, by rw [List.length_cons, List.length_cons, h2], fun f hm => ?_⟩
      rcases List.mem_cons.mp hm with rfl | hm
      · exact ⟨x, t, rfl⟩
      · exact h3 f hm
theorem tl_sortable {a : Addr} {vs : List Value} {k : Value → List Int} {d : Nat} (h0 : 0 < vs.length) (h1 : 1 ≤ d) (hp : ∀ v ∈ vs, IsTl s.heap v (k v) ∧ (k v).length = d) (ha : ∀ o, s.heap.get? a = some o → o.cls ≠ .type "tuple") : SrtO.SortableO prog w A s a vs fun v u => HT.lexLt (k v) (k u) := by
  intro h' keep
  have hp' : ∀ v ∈ vs, IsTl h' v (k v) ∧ (k v).length = d := fun v hm => ⟨(hp v hm).1.keeps fun b o e c => keep b o (fun z => by subst z; exact ha o e c) e, (hp v hm).2⟩
  obtain ⟨fs, h1, h2, h3⟩ := firsts_tl (k := k) fun v hm => ⟨(hp' v hm).1, by rw [(hp' v hm).2]; exact h1⟩
  refine ⟨tuples' true, fun Q E hq => ?_, tl_cmp hp'⟩
  refine PySem.W.kat_kind (T := .type "int") h1 (by omega) (fun f hm => ?_) (by rfl) ?_
  · obtain ⟨x, t, rfl⟩ := h3 f hm
    exact PySem.W.Looks.now
  · have e : (Value.type "int" != Value.type "tuple") = true := by first | decide +kernel | rfl | decide
    rw [e]
    exact hq
end
def keyInts : List Key → List Int
  | [] => []
  | .inl i :: r => i :: keyInts r
  | .inr _ :: r => keyInts r
def stK (x y z : Int) : List Key := [.inl x, .inl y, .inl z]
def vKey (ks : List (List Key × Addr × Value)) : Value → List Int
  | .ref a => match ks.find? fun x => x.2.1 == a with
    | some x => keyInts x.1
    | none => []
  | _ => []
theorem acc_keys {P : Program} {w : World} {ks : List (List Key × Addr × Value)} {es : Array DictEntry} {acc : Array Value} (he : es.toList = ks.map (entryOfKey (tupleKind (mixKind P w)))) (h1 : acc.size = es.size) (h2 : ∀ (i : Nat) (v : Value), acc[i]? = some v → ∃ en : DictEntry, es[i]? = some en ∧ v = en.key) :
    acc.toList = (ks.map fun x => x.2.1).map Value.ref := by
  have l1 : es.size = ks.length := size_of_entries he
  rw [List.map_map]
  have hl : acc.toList.length = ks.length := by rw [Array.length_toList, h1]; exact l1
  apply List.ext_getElem?
  intro j
  rw [List.getElem?_map]
  cases hj : acc.toList[j]? with
  | none =>
    have h1 := List.getElem?_eq_none_iff.mp hj
    rw [List.getElem?_eq_none (by omega)]
    all_goals rfl
  | some v =>
    obtain ⟨en, hen, hv⟩ := h2 j v (by rw [← Array.getElem?_toList]; exact hj)
    have qe := entry_at he j
    rw [hen] at qe
    cases hb : ks[j]? with
    | none =>
      rw [hb] at qe
      exact nomatch (show some en = none from qe)
    | some b =>
      rw [hb] at qe
      have e2 : en = entryOfKey (tupleKind (mixKind P w)) b := Option.some.inj qe
      rw [hv, e2]
      all_goals rfl
def rSortX (P : Program) (w : World) (K : PySem.W.Frag) : List V → Hp → VK → Prop := fun xs H Q => ∃ d kvs, xs = [V.ref d] ∧ DAt P w K H d kvs ∧ (∀ kv ∈ kvs, ∃ x y z : Int, kv.1 = stK x y z) ∧
  ∀ (p : Addr) (bs cs : List Addr), H p = none → IsKeysX K H kvs bs → cs.Perm bs → (∃ g : Addr → List Int, (∀ (i : Nat) (kv : List Key × V) (b : Addr), kvs[i]? = some kv → bs[i]? = some b → g b = keyInts kv.1) ∧ cs.Pairwise fun a b => HT.lexLt (g b) (g a) = false) → Q (.ref p) (upd H p (.lst (cs.map V.ref)))
theorem ints_fun : ∀ {vs : List Value} {ns ms : List Int}, IntsAre vs ns → IntsAre vs ms → ns = ms
  | _, _, _, .nil, h => by cases h; rfl
  | _, _, _, .cons _ _ a, h => by
    cases h with
    | cons _ _ b => rw [ints_fun a b]
theorem refs_perm : ∀ {out : List Value}, (∀ v ∈ out, ∃ t, v = Value.ref t) → ∃ cs : List Addr, out = cs.map Value.ref
  | [], _ => ⟨[], rfl⟩
  | v :: out, h => by
    obtain ⟨t, e⟩ := h v List.mem_cons_self
    obtain ⟨cs, ec⟩ := refs_perm fun u hu => h u (List.mem_cons_of_mem _ hu)
    exact ⟨t :: cs, by rw [e, ec]; rfl⟩
def adX : Value → Addr
  | .ref a => a
  | _ => 0
theorem refs_inj {a b : List Addr} (h : (a.map Value.ref).Perm (b.map Value.ref)) : a.Perm b := by
  have q := h.map adX
  rw [List.map_map, List.map_map] at q
  have e : (adX ∘ Value.ref) = id := rfl
  rwa [e, List.map_id, List.map_id] at q
theorem vals_refs' : ∀ as : List Addr, Vals (as.map V.ref) (as.map Value.ref)
  | [] => .nil
  | _ :: as => .cons rfl (vals_refs' as)
section
variable {X : Cx}
theorem cr_sortedX (hc : X.calm = true) : CallR X (.builtin "sorted") (rSortX X.prog X.w X.K) := by
  intro pins s σ H xs us Q I r h
  obtain ⟨d, kvs, rfl, ⟨ks, o0, hd, pr⟩, hks, q⟩ := h
  obtain ⟨u, rfl, rx⟩ := r.one
  cases rx
  obtain ⟨z, hs, dd⟩ := dx_heap I hd pr
  obtain ⟨o, es, ep, ho, hx, hdt, he, hkk, hn⟩ := dd
  have l1 : es.size = ks.length := size_of_entries he
  have key3 : ∀ x ∈ ks, ∃ a b c : Int, x.1 = stK a b c := by
    have all : ∀ {l : List (List Key × V)} {m : List (List Key × Addr × Value)}, KX X.K H l m → (∀ kv ∈ l, ∃ x y z : Int, kv.1 = stK x y z) → ∀ x ∈ m, ∃ a b c : Int, x.1 = stK a b c := by
      intro l m q
      induction q with
      | nil => intro _ x hx; exact nomatch hx
      | @cons p q ps qs hq t ih =>
        intro hl x hx
        rcases List.mem_cons.mp hx with e | hx
        · subst e
          rw [← hq.1]
          exact hl p List.mem_cons_self
        · exact ih (fun kv hk => hl kv (List.mem_cons_of_mem _ hk)) x hx
    exact all pr hks
  have tl : ∀ v ∈ (ks.map fun x => x.2.1).map Value.ref, IsTl s.heap v (vKey ks v) ∧ (vKey ks v).length = 3 := fun v hv => by
    obtain ⟨a, ha, rfl⟩ := List.mem_map.mp hv
    obtain ⟨x, hxm, rfl⟩ := List.mem_map.mp ha
    have hf : ∃ x', ks.find? (fun y => y.2.1 == x.2.1) = some x' := by
      cases e : ks.find? (fun y => y.2.1 == x.2.1) with
      | some x' => exact ⟨x', rfl⟩
      | none => exact absurd (List.find?_eq_none.mp e x hxm) (by simp)
    obtain ⟨x', e⟩ := hf
    have em : x' ∈ ks := List.mem_of_find?_eq_some e
    have ea : x'.2.1 = x.2.1 := by simpa using List.find?_some e
    obtain ⟨i, j, k, e3⟩ := key3 x' em
    obtain ⟨o', its, n, h1, h2, h3, h4⟩ := hkk x' em
    have ev : vKey ks (.ref x.2.1) = [i, j, k] := by
      show (match ks.find? (fun y => y.2.1 == x.2.1) with | some x => keyInts x.1 | none => []) = _
      rw [e]
      show keyInts x'.1 = _
      rw [e3]
      rfl
    rw [ev]
    rw [e3] at h4
    rw [ea] at h1
    exact ⟨⟨x.2.1, o', its, n, rfl, h1, h2, h3, ints_of_items (ns := [i, j, k]) h4⟩, rfl⟩
  have vk : ∀ x ∈ ks, vKey ks (.ref x.2.1) = keyInts x.1 := fun x hxm => by
    have hf : ∃ x', ks.find? (fun y => y.2.1 == x.2.1) = some x' := by
      cases e : ks.find? (fun y => y.2.1 == x.2.1) with
      | some x' => exact ⟨x', rfl⟩
      | none => exact absurd (List.find?_eq_none.mp e x hxm) (by simp)
    obtain ⟨x', e⟩ := hf
    have em : x' ∈ ks := List.mem_of_find?_eq_some e
    have ea : x'.2.1 = x.2.1 := by simpa using List.find?_some e
    obtain ⟨i, j, k, e3⟩ := key3 x' em
    obtain ⟨i2, j2, k2, e32⟩ := key3 x hxm
    obtain ⟨o', its, n, h1, h2, h3, h4⟩ := hkk x' em
    obtain ⟨o2, its2, n2, g1, g2, g3, g4⟩ := hkk x hxm
    rw [ea, g1] at h1
    have h1 := Option.some.inj h1
    subst h1
    rw [g3] at h3
    injection h3 with h3 _
    subst h3
    rw [e3] at h4
    rw [e32] at g4
    have q1 := ints_of_items (ns := [i, j, k]) h4
    have q2 := ints_of_items (ns := [i2, j2, k2]) g4
    have q3 := ints_fun q1 q2
    show (match ks.find? (fun y => y.2.1 == x.2.1) with | some x => keyInts x.1 | none => []) = _
    rw [e]
    show keyInts x'.1 = keyInts x.1
    rw [e3, e32]
    exact q3
  refine Calls.call_function_entry PyProof.Rows.kind_sorted PyProof.Rows.plain_sorted PyProof.Rows.entry_sorted (PyProof.Rows.args_sorted1 _) ?_
  unfold Builtin.«sorted»
  refine wpAny_bind (m := checkCount "sorted" 1 1 _) (wpAny_pure ?_)
  refine wpAny_bind (PySem.W.kdu_collect (A := X.A.in1) (kdl_raw hs hx hdt) (I.ok.hd hc) ho (by omega) fun h' tk acc hk hacc => ?_)
  have ea : acc.toList = (ks.map fun x => x.2.1).map Value.ref := acc_keys he hacc.1 hacc.2
  have hal : acc.toList.length = ks.length := by rw [ea, List.length_map, List.length_map]
  have I1 : Inv X pins σ H { s with heap := h', toks := tk } := I.kept hk
  refine wpAny_bind (wpAny_newList ?_ (by rw [hal]; exact z))
  have hoL : (h'.push (seqObj "list" acc.toList.toArray 0)).get? h'.objs.size = some (seqObj "list" acc.toList.toArray 0) := Heap.get?_push_size _ rfl
  show wpAny _ _ _ _ _ { s with heap := h'.push (seqObj "list" acc.toList.toArray 0), toks := tk }
  refine wpAny_bind (wpAny_holding (wpAny_call_entry PyProof.Rows.slot_list_sort ⟨_, hoL, rfl⟩ PyProof.Rows.entry_list_sort
    (SrtO.list_sort_ord (s := { s with heap := h'.push (seqObj "list" acc.toList.toArray 0), toks := tk }) (NtL.swo_lexL (vKey ks)) hoL (by rw [hal]; exact z) (fun h2 => tl_sortable (d := 3) (by omega) (by decide) (fun v hv => ?_) fun o e => ?_) fun out hso hst => ⟨_, rfl, ?_⟩)
    (PyProof.Rows.args_list_sort _)))
  · rw [ea] at hv
    exact ⟨(tl v hv).1.keeps fun b o e _ => Heap.get?_push_of_some _ (hk b o e), (tl v hv).2⟩
  · have e' : some o = some (seqObj "list" acc.toList.toArray 0) := e.symm.trans hoL
    cases e'
    intro c
    exact absurd (Value.type.inj c) (by decide)
  · have hpm := hst.perm
    rw [ea] at hpm
    obtain ⟨cs, rfl⟩ := refs_perm (out := out) fun v hv => by
      obtain ⟨a, _, rfl⟩ := List.mem_map.mp (hpm.mem_iff.mp hv)
      exact ⟨a, rfl⟩
    have hcp := refs_inj hpm
    obtain ⟨e', he'⟩ := PyProof.Rows.sortedHeap_at (vs := acc.toList) (out := (cs.map Value.ref).toArray) hoL
    have hlen : (cs.map V.ref).length ≤ sizeLine := by
      rw [List.length_map, hcp.length_eq, List.length_map]
      exact z
    refine wpAny_pure ⟨_, rfl, .ref h'.objs.size, upd H h'.objs.size (.lst (cs.map V.ref)), I1.laid (t' := tk) (fun b u e => ?_) (Nat.le_refl _)
      (show ObjOk X.prog X.w _ _ _ (.lst (cs.map V.ref)) from ⟨hlen, cs.map Value.ref, e', vals_refs' cs, he'⟩), rfl, q _ _ cs (I1.hok.fresh (Nat.le_refl _)) (isKeysX_of pr) hcp ⟨fun a => vKey ks (.ref a), fun i kv b h1 h2 => ?_, ?_⟩⟩
    have hb : b < h'.objs.size := Heap.lt_size e
    rw [PyProof.Rows.sortedHeap_old (Nat.ne_of_lt hb) (by rw [size_push']; exact Nat.lt_succ_of_lt hb)]
    exact Heap.get?_push_of_some _ e
    · rw [List.getElem?_map] at h2
      cases e : ks[i]? with
      | none => rw [e] at h2; cases h2
      | some x =>
        rw [e] at h2
        have h2 := Option.some.inj h2
        subst h2
        show vKey ks (.ref x.2.1) = keyInts kv.1
        rw [vk x (List.mem_of_getElem? e)]
        have all : ∀ {l : List (List Key × V)} {m : List (List Key × Addr × Value)}, KX X.K H l m → ∀ (i : Nat) kv x, l[i]? = some kv → m[i]? = some x → kv.1 = x.1 := by
          intro l m q
          induction q with
          | nil => intro i kv x h _; simp at h
          | @cons p q ps qs hq t ih =>
            intro i kv x h1 h2
            cases i with
            | zero =>
              obtain rfl := Option.some.inj (show some _ = some _ from h1)
              obtain rfl := Option.some.inj (show some _ = some _ from h2)
              exact hq.1
            | succ i => exact ih i kv x (by simpa using h1) (by simpa using h2)
        rw [all pr i kv x h1 e]
    · have := hso
      unfold SrtO.Srtd at this
      rw [List.pairwise_map] at this
      exact this
end
end KC
set_option Elab.async false
set_option linter.all false
set_option maxRecDepth 100000
set_option maxHeartbeats 4000000
/-! == and != of two dicts with tuple keys that say the same. -/
namespace KC
open PySem PySem.Spec PyProof.Rows L2 GX Evl
section
variable {prog : Program} {w : World} {KT : Type} [DecidableEq KT] {knd : HeapKind prog w KT} {A : Around} {E : Value → Shared → Prop} {s : Shared}
theorem samePairsX {nm : String} {a b : Addr} {ka kb : List (KT × Addr × Value)} {Q : Bool → Shared → Prop} (ha : (a == sysModules) = false) (hb : (b == sysModules) = false) (hu : knd.room A)
    (da : s.heap.DictOfH knd a ka) (db : s.heap.DictOfH knd b kb) (hlen : ka.length = kb.length) (hits : ∀ x ∈ ka, ∃ y, atKey kb x.1 = some y ∧ SeqAt.EqP prog w A s x.2.2 y.2 true) (h : Q true s) :
    wpAny (model prog w) A (Builtin.Dict.samePairs nm a b) Q E s := by
  obtain ⟨oa, es, ep, hoa, _, hda, hea, hia, hna⟩ := da
  obtain ⟨ob, es', ep', hob, _, hdb, heb, hib, hnb⟩ := db
  have hla : es.size = ka.length := size_of_entries hea
  have hlb : es'.size = kb.length := size_of_entries heb
  have hsz : es.size = es'.size := by omega
  unfold Builtin.Dict.samePairs Builtin.Dict.showsAll
  rw [if_neg (show ¬ (a == sysModules) = true by rw [ha]; exact Bool.false_ne_true), if_neg (show ¬ (b == sysModules) = true by rw [hb]; exact Bool.false_ne_true)]
  refine wpAny_bind (wpAny_pure (wpAny_bind (wpAny_pure ?_)))
  refine wpAny_bind (wpAny_dictEntries hoa hda ?_)
  dsimp only
  refine wpAny_bind (wpAny_dictEntries hob hdb ?_)
  rw [if_neg (by rw [hsz]; simp)]
  refine wpAny_bind (wpAny_dictEpoch hoa hda ?_)
  refine wpAny_bind ?_
  rw [Std.Legacy.Range.forIn_eq_forIn_range']
  simp only [Std.Legacy.Range.size, Nat.sub_zero, Nat.add_sub_cancel, Nat.div_one]
  refine wpAny_forIn_list _
    (fun rest q s' => s' = s ∧ q = (none, ()) ∧ ∃ i, rest = List.range' i (es.size - i) ∧ i ≤ es.size)
    _ ?_ ?_ _ _ ⟨rfl, rfl, 0, by simp, Nat.zero_le _⟩
  · rintro x rest q s' ⟨rfl, rfl, i, hr, hi⟩
    have hlt : i < es.size := by
      rcases Nat.lt_or_ge i es.size with h | h
      · exact h
      · rw [Nat.sub_eq_zero_of_le h] at hr; simp at hr
    obtain ⟨rfl, hrest⟩ : x = i ∧ rest = List.range' (i + 1) (es.size - (i + 1)) := by
      have e : es.size - i = (es.size - (i + 1)) + 1 := by omega
      rw [e, List.range'_succ] at hr
      injection hr with h1 h2
      exact ⟨h1, h2⟩
    refine wpAny_bind (wpAny_dictEntries hoa hda ?_)
    have hlt' : x < ka.length := by omega
    have hen : es[x]? = some (entryOfKey knd ka[x]) := by rw [entry_at hea x, List.getElem?_eq_getElem hlt']; rfl
    have hm : ka[x] ∈ ka := List.getElem_mem hlt'
    generalize ka[x] = z at hen hm
    obtain ⟨y, hy, hq⟩ := hits z hm
    rw [hen]
    show wpAny _ _ (holding [Value.ref z.2.1, z.2.2] _ >>= _) _ _ _
    refine wpAny_bind (wpAny_holding (wpAny_bind (wpAny_dictFind_heap hu (hia z hm) hob hdb heb hib hnb (fun hno => ?_) fun j p hj => ?_)))
    · rw [atKey_none_of_get hno] at hy
      exact nomatch hy
    · rw [atKey_of_get hnb hj] at hy
      have hy := Option.some.inj hy
      subst hy
      refine wpAny_bind (wpAny_dictEntries hob hdb ?_)
      rw [entry_at heb j, hj]
      refine wpAny_holding (hq _ _ ?_)
      show wpAny _ _ (if (!true) = true then _ else _) _ _ _
      rw [if_neg (by decide)]
      refine wpAny_bind (wpAny_dictEpoch hoa hda ?_)
      rw [if_neg (by simp)]
      exact wpAny_pure ⟨rfl, rfl, x + 1, hrest, hlt⟩
  · rintro q s' ⟨rfl, rfl, i, hr, hi⟩
    exact wpAny_pure h
theorem eqX {a b : Addr} {ka kb : List (KT × Addr × Value)} {Q : Value → Shared → Prop} (ha : (a == sysModules) = false) (hb : (b == sysModules) = false) (hr : knd.room A.in1)
    (da : s.heap.DictOfH knd a ka) (db : s.heap.DictOfH knd b kb) (hu : A.units < cLine) (hlen : ka.length = kb.length) (hits : ∀ x ∈ ka, ∃ y, atKey kb x.1 = some y ∧ SeqAt.EqP prog w A.in1 s x.2.2 y.2 true) (h : Q (.bool true) s) :
    wpAny (model prog w) A (compareOp .Eq (.ref a) (.ref b)) Q E s := by
  refine wpAny_richCompare_same_room (op := .Eq) da.typeIs db.typeIs PySem.F.slot_dict_eq (wpAny_call_entry PySem.F.slot_dict_eq da.typeIs PySem.F.entry_dict_eq ?_ (PySem.F.args_dict_eq_2 _ _)) hu
  show wpAny _ _ (Builtin.Dict.dictSlotArgs "__eq__" ⟨[.ref a, .ref b], []⟩ >>= _) _ _ s
  refine wpAny_bind ?_
  unfold Builtin.Dict.dictSlotArgs
  refine wpAny_bind (wpAny_notOrdered_dict da.typeIs ?_)
  show wpAny _ _ (pure (Value.ref a, Value.ref b)) _ _ s
  refine wpAny_pure ?_
  refine wpAny_bind (wpAny_isInstance (T := "dict") db.typeIs PySem.F.sub_dict_dict ?_)
  simp only [Bool.not_true, Bool.false_eq_true, if_false]
  refine wpAny_bind (wpAny_pure (wpAny_bind (wpAny_pure ?_)))
  refine wpAny_bind (samePairsX ha hb hr da db hlen hits ?_)
  refine wpAny_pure ⟨_, rfl, ?_, ?_⟩
  · exact fun x => nomatch x
  · simpa using h
theorem neX {a b : Addr} {ka kb : List (KT × Addr × Value)} {Q : Value → Shared → Prop} (ha : (a == sysModules) = false) (hb : (b == sysModules) = false) (hr : knd.room A.in1)
    (da : s.heap.DictOfH knd a ka) (db : s.heap.DictOfH knd b kb) (hu : A.units < cLine) (hlen : ka.length = kb.length) (hits : ∀ x ∈ ka, ∃ y, atKey kb x.1 = some y ∧ SeqAt.EqP prog w A.in1 s x.2.2 y.2 true) (h : Q (.bool false) s) :
    wpAny (model prog w) A (compareOp .NotEq (.ref a) (.ref b)) Q E s := by
  refine wpAny_richCompare_same_room (op := .NotEq) da.typeIs db.typeIs PySem.F.slot_dict_ne (wpAny_call_entry PySem.F.slot_dict_ne da.typeIs PySem.F.entry_dict_ne ?_ (PySem.F.args_dict_ne_2 _ _)) hu
  show wpAny _ _ (Builtin.Dict.dictSlotArgs "__ne__" ⟨[.ref a, .ref b], []⟩ >>= _) _ _ s
  refine wpAny_bind ?_
  unfold Builtin.Dict.dictSlotArgs
  refine wpAny_bind (wpAny_notOrdered_dict da.typeIs ?_)
  show wpAny _ _ (pure (Value.ref a, Value.ref b)) _ _ s
  refine wpAny_pure ?_
  refine wpAny_bind (wpAny_isInstance (T := "dict") db.typeIs PySem.F.sub_dict_dict ?_)
  simp only [Bool.not_true, Bool.false_eq_true, if_false]
  refine wpAny_bind (wpAny_pure (wpAny_bind (wpAny_pure ?_)))
  refine wpAny_bind (samePairsX ha hb hr da db hlen hits ?_)
  refine wpAny_pure ⟨_, rfl, ?_, ?_⟩
  · exact fun x => nomatch x
  · simpa using h
end
/-- an int or None -/
def inB : V → Bool
  | .int _ => true
  | .non => true
  | _ => false
def rNeX (P : Program) (w : World) (K : PySem.W.Frag) : R2 := fun x y H Q => ∃ a b ks ls, x = .ref a ∧ y = .ref b ∧ DAt P w K H a ks ∧ DAt P w K H b ls ∧ ks.length = ls.length ∧ (∀ p ∈ ks, valV ls p.1 = some p.2 ∧ inB p.2 = true) ∧ Q (.bl false) H
section
variable {X : Cx}
theorem op_neX (hu : X.A.units + 64 < cLine) : OpR X (compareOp .NotEq) (rNeX X.prog X.w X.K) := by
  intro pins s σ H x y v u Q I rx ry h
  obtain ⟨a, b, ks, ls, rfl, rfl, ⟨xa, oa, ea, ra⟩, ⟨xb, ob, eb, rb⟩, hlen, hp, q⟩ := h
  obtain rfl : v = Value.ref a := rx
  obtain rfl : u = Value.ref b := ry
  obtain ⟨_, sa, da⟩ := dx_heap I ea ra
  obtain ⟨_, sb, db⟩ := dx_heap I eb rb
  refine neX sa sb (tupleKind_room_in1 (by omega)) da db (by omega) (by have h1 := Paired.length ra; have h2 := Paired.length rb; omega) ?_ ⟨.bl false, H, I, rfl, q⟩
  have all : ∀ {l : List (List Key × V)} {m : List (List Key × Addr × Value)}, KX X.K H l m → (∀ p ∈ l, valV ls p.1 = some p.2 ∧ inB p.2 = true) → ∀ x ∈ m, ∃ y, atKey xb x.1 = some y ∧ SeqAt.EqP X.prog X.w X.A.in1 s x.2.2 y.2 true := by
    intro l m qq
    induction qq with
    | nil => intro _ x hx; exact nomatch hx
    | @cons p q ps qs hq t ih =>
      intro hl x hx
      rcases List.mem_cons.mp hx with e | hx
      · subst e
        obtain ⟨h1, h2⟩ := hl p List.mem_cons_self
        obtain ⟨k1, _, k3⟩ := hq
        rw [k1] at h1
        obtain ⟨w', hw, rw'⟩ := RelO.some_of (v := p.2) (o := (atKey xb x.1).map (·.2)) (by rw [← h1]; exact rb.val x.1)
        obtain ⟨y, hy, hy2⟩ := Option.map_eq_some_iff.mp hw
        refine ⟨y, hy, SeqAt.EqAt.eqP ?_⟩
        rw [hy2]
        generalize p.2 = pv at h2 k3 rw'
        generalize x.2.2 = xv at k3
        cases pv with
        | int i =>
          obtain ⟨t1, rfl⟩ := k3
          obtain ⟨t2, rfl⟩ := rw'
          have := SeqAt.EqAt.int_int (A := X.A.in1) (s := s) i t1 i t2
          simpa using this
        | non =>
          cases k3
          cases rw'
          exact SeqAt.EqAt.same _
        | _ => exact nomatch h2
      · exact ih (fun p hk => hl p (List.mem_cons_of_mem _ hk)) x hx
  exact all ra hp
end
/-! ### readings -/
section
variable {P : Program} {w : World} {K : PySem.W.Frag} {σ : L2.St} {H : Hp} {td ty tv ta tb : TE} {D : Ends} {tz : TS} {a b : Addr} {kvs ls : List (List Key × V)} {k : List Key} {v : V}
theorem ev_neX (h1 : Ev ta σ H (.ref a)) (h2 : Ev tb σ H (.ref b)) (ha : DAt P w K H a kvs) (hb : DAt P w K H b ls) (hl : kvs.length = ls.length) (hp : ∀ p ∈ kvs, valV ls p.1 = some p.2 ∧ inB p.2 = true) : Ev (tOp (rNeX P w K) ta tb) σ H (.bl false) := fun H1 e Q q =>
  h1 H1 e _ fun H2 e2 => h2 H2 (e.trans e2) _ fun H3 e3 => ⟨a, b, kvs, ls, rfl, rfl, ha.ext ((e.trans e2).trans e3), hb.ext ((e.trans e2).trans e3), hl, hp, q H3 (e2.trans e3)⟩
theorem ev_minN {l : Addr} {ns : List Int} (h : EvL ta σ H (ns.map V.int)) (h2 : ∀ H1, Ex H H1 → Ev tb σ H1 .non) : Ev (tCKw (rMinN K) (tCons ta tNil) (tCons tb tNil)) σ H (minO ns) := fun H1 e Q q =>
  h H1 e _ fun p H2 hp e2 hl => h2 H2 (e.trans e2) H2 (Ex.refl _) _ fun H3 e3 => ⟨p, ns, rfl, rfl, sq_of (e3 p _ hl), q H3 (e2.trans e3)⟩
end
end KC
set_option Elab.async false
set_option linter.all false
set_option maxRecDepth 100000
set_option maxHeartbeats 4000000
/-! New lists of data, dicts written to, extend, reversed. -/
namespace KC
open PySem PySem.Spec PyProof.Rows L2 GX Evl
def EvLD (K : PySem.W.Frag) (te : TE) (σ : L2.St) (H : Hp) (ds : List PyData) : Prop := ∀ H1, Ex H H1 → ∀ Q : VK, (∀ p vs H2, H1 p = none → Ex H1 H2 → H2 p = some (.lst vs) → DpAll K H2 vs ds → Q (.ref p) H2) → te σ H1 Q
def RetLD (K : PySem.W.Frag) (ds : List PyData) (H : Hp) (Q : VK) : Prop := ∀ p vs H2, H p = none → Ex H H2 → H2 p = some (.lst vs) → DpAll K H2 vs ds → Q (.ref p) H2
def SpLD (K : PySem.W.Frag) (sp : Sp) (vs : List V) (H : Hp) (ds : List PyData) : Prop := ∀ H1, Ex H H1 → ∀ Q : VK, (∀ p xs H2, H1 p = none → Ex H1 H2 → H2 p = some (.lst xs) → DpAll K H2 xs ds → Q (.ref p) H2) → ∀ E : XK, sp vs H1 Q E
mutual
theorem Dp.keepT {K : PySem.W.Frag} {H H' : Hp} (hk : ∀ b ys, SqT K H b ys → SqT K H' b ys) : ∀ (d : PyData) (v : V), noList d = true → Dp K H v d → Dp K H' v d
  | .none, _, _, h => by cases h; exact .non
  | .bool b, _, _, h => by cases h; exact .bl b
  | .int i, _, _, h => by cases h; exact .int i
  | .str x, _, _, h => by cases h; exact .str x
  | .list _, _, z, _ => by simp [noList] at z
  | .tuple ds, _, z, h => by
    cases h with
    | tup h1 h2 => exact .tup (hk _ _ h1) (DpAll.keepT hk ds _ (by simpa [noList] using z) h2)
  | .dict _, _, _, h => by cases h
theorem DpAll.keepT {K : PySem.W.Frag} {H H' : Hp} (hk : ∀ b ys, SqT K H b ys → SqT K H' b ys) : ∀ (ds : List PyData) (vs : List V), noListAll ds = true → DpAll K H vs ds → DpAll K H' vs ds
  | [], _, _, h => by cases h; exact .nil
  | d :: ds, _, z, h => by
    cases h with
    | cons h1 h2 =>
      simp only [noListAll, Bool.and_eq_true] at z
      exact .cons (Dp.keepT hk d _ z.1 h1) (DpAll.keepT hk ds _ z.2 h2)
end
theorem sqt_but {K : PySem.W.Frag} {H H' : Hp} {a b : Addr} {ys : List V} {φ : Heap → Prop} (e : H a = some (.ext φ)) (k : ∀ c, c ≠ a → H' c = H c) (h : SqT K H b ys) : SqT K H' b ys := by
  rcases h with (h | ⟨ob, h⟩) | h
  · exact .inl (.inl (by rw [k b (fun z => by rw [z, e] at h; cases h)]; exact h))
  · exact .inl (.inr ⟨ob, by rw [k b (fun z => by rw [z, e] at h; cases h)]; exact h⟩)
  · exact .inr h
theorem DAt.isX {P : Program} {w : World} {K : PySem.W.Frag} {H : Hp} {a : Addr} {kvs : List (List Key × V)} (h : DAt P w K H a kvs) : ∃ φ, H a = some (.ext φ) := by
  obtain ⟨xs, o, h1, _⟩ := h
  exact ⟨_, h1⟩
theorem DAt.put {P : Program} {w : World} {K : PySem.W.Frag} {H : Hp} {a l : Addr} {kvs : List (List Key × V)} {zs ys : List V} (h : DAt P w K H a kvs) (hl : H l = some (.lst zs)) : DAt P w K (upd H l (.lst ys)) a kvs := by
  obtain ⟨xs, o, h1, h2⟩ := h
  exact ⟨xs, o, by rw [upd_ne (fun e => by rw [e, hl] at h1; cases h1)]; exact h1, h2.keeps fun b zs z => sqt_put z hl⟩
theorem DAt.but {P : Program} {w : World} {K : PySem.W.Frag} {H H' : Hp} {a d : Addr} {kvs ls : List (List Key × V)} (h : DAt P w K H a kvs) (hd : DAt P w K H d ls) (k : ∀ c, c ≠ d → H' c = H c) (ne : a ≠ d) : DAt P w K H' a kvs := by
  obtain ⟨xs, o, h1, h2⟩ := h
  obtain ⟨φ, e⟩ := hd.isX
  exact ⟨xs, o, by rw [k a ne]; exact h1, h2.keeps fun b zs z => sqt_but e k z⟩
theorem ex_but {H H1 H2 : Hp} {d : Addr} (e : Ex H H1) (h : H d = none) (k : ∀ c, c ≠ d → H2 c = H1 c) : Ex H H2 := fun b o hb => by
  have ne : b ≠ d := fun z => by rw [z, h] at hb; cases hb
  rw [k b ne]
  exact e b o hb
section
variable {P : Program} {w : World} {K : PySem.W.Frag} {σ : L2.St} {H H' : Hp} {td ty tv ta tb te tl : TE} {D : Ends} {tz tu : TS} {a b : Addr} {kvs ls : List (List Key × V)} {k : List Key} {v : V} {ds : List PyData}
theorem EvLD.mono (e : Ex H H') (h : EvLD K te σ H ds) : EvLD K te σ H' ds := fun H1 a Q q => h H1 (e.trans a) Q q
theorem eld_call {sp : Sp} {dvs vs : List V} {E : XK} {ta : TA} (h : EvA ta σ H vs) (hs : SpLD K sp (vs ++ dvs) H ds) : EvLD K (tCall sp dvs E ta) σ H ds := fun H1 e Q q =>
  h H1 e _ fun H2 e2 => hs H2 (e.trans e2) Q (fun p xs H3 hp e3 h3 hd => q p xs H3 (fresh_back e2 hp) (e2.trans e3) h3 hd) E
theorem s_dput (h : Ev tv σ H v) (h1 : Ev td σ H (.ref a)) (h2 : Ev ty σ H (.ref b)) (g : DAt P w K H a kvs) (hb : SqT K H b (k.map kV)) (hl : kvs.length < 100000)
    (q : ∀ H1 H2, Ex H H1 → DAt P w K H2 a (putK kvs k v) → (∀ c, c ≠ a → H2 c = H1 c) → D.nx σ H2) : sDPutX P w K td ty tv D σ H :=
  h H (Ex.refl H) _ fun H1 e1 => h1 H1 e1 _ fun H2 e2 => h2 H2 (e1.trans e2) _ fun H3 e3 => ⟨a, kvs, b, k, rfl, rfl, g.ext ((e1.trans e2).trans e3), ex_t ((e1.trans e2).trans e3) hb, sz_lt hl, fun H4 hd hk => q H3 H4 ((e1.trans e2).trans e3) hd hk⟩
theorem s_dputLD (h : EvLD K tv σ H ds) (h1 : Ev td σ H (.ref a)) (h2 : Ev ty σ H (.ref b)) (g : DAt P w K H a kvs) (hb : SqT K H b (k.map kV)) (hl : kvs.length < 100000)
    (q : ∀ p vs H1 H2, H p = none → Ex H H1 → H1 p = some (.lst vs) → DpAll K H1 vs ds → DAt P w K H2 a (putK kvs k (.ref p)) → (∀ c, c ≠ a → H2 c = H1 c) → D.nx σ H2) : sDPutX P w K td ty tv D σ H :=
  h H (Ex.refl H) _ fun p vs H1 hp e1 hv hd => h1 H1 e1 _ fun H2 e2 => h2 H2 (e1.trans e2) _ fun H3 e3 => ⟨a, kvs, b, k, rfl, rfl, g.ext ((e1.trans e2).trans e3), ex_t ((e1.trans e2).trans e3) hb, sz_lt hl, fun H4 hd4 hk => q p vs H3 H4 hp ((e1.trans e2).trans e3) ((e2.trans e3) p _ hv) (DpAll.ext (e2.trans e3) _ _ hd) hd4 hk⟩
theorem q_dput (h : Ev tv σ H v) (h1 : Ev td σ H (.ref a)) (h2 : Ev ty σ H (.ref b)) (g : DAt P w K H a kvs) (hb : SqT K H b (k.map kV)) (hl : kvs.length < 100000)
    (q : ∀ H1 H2, Ex H H1 → DAt P w K H2 a (putK kvs k v) → (∀ c, c ≠ a → H2 c = H1 c) → tz D σ H2) : tSeq (sDPutX P w K td ty tv) tz D σ H := s_dput (D := { D with nx := tz D }) h h1 h2 g hb hl q
theorem q_dputLD (h : EvLD K tv σ H ds) (h1 : Ev td σ H (.ref a)) (h2 : Ev ty σ H (.ref b)) (g : DAt P w K H a kvs) (hb : SqT K H b (k.map kV)) (hl : kvs.length < 100000)
    (q : ∀ p vs H1 H2, H p = none → Ex H H1 → H1 p = some (.lst vs) → DpAll K H1 vs ds → DAt P w K H2 a (putK kvs k (.ref p)) → (∀ c, c ≠ a → H2 c = H1 c) → tz D σ H2) : tSeq (sDPutX P w K td ty tv) tz D σ H := s_dputLD (D := { D with nx := tz D }) h h1 h2 g hb hl q
theorem s_dnew {i : Nat} (q : ∀ p H1, H p = none → Ex H H1 → DAt P w K H1 p [] → D.nx (σ.set i (some (.ref p))) H1) : tAsg (tDNewX P w) (gName i) D σ H := fun p hp => q p _ hp (Ex.new hp) ⟨[], _, upd_same, .nil⟩
theorem q_dnew {i : Nat} (q : ∀ p H1, H p = none → Ex H H1 → DAt P w K H1 p [] → tz D (σ.set i (some (.ref p))) H1) : tSeq (tAsg (tDNewX P w) (gName i)) tz D σ H := s_dnew (D := { D with nx := tz D }) q
/-- l.extend(xs), xs new -/
theorem s_extL {l : Addr} {xs ys : List V} (hl : H l = some (.lst xs)) (ha : Ev ta σ H (.ref l)) (h : EvL te σ H ys) (hz : xs.length + ys.length ≤ 1000000) (q : ∀ p H1, H p = none → Ex H H1 → H1 p = some (.lst ys) → D.nx σ (upd H1 l (.lst (xs ++ ys)))) :
    tDrop (tBM K "list" rExtend ta (tCons te tNil)) D σ H := ha H (Ex.refl H) _ fun H1 e1 =>
  ⟨.inl ⟨rfl, xs, sq_of (e1 l _ hl)⟩, h H1 e1 _ fun p H2 hp e2 h2 => ⟨l, p, xs, ys, rfl, rfl, (e1.trans e2) l _ hl, h2, by rw [sizeLine_eq]; omega, q p H2 (fresh_back e1 hp) (e1.trans e2) h2⟩⟩
/-- a list's truth -/
theorem et_truL {xs : List V} (h : Ev ta σ H (.ref a)) (hx : SqL K H a xs) : EvT (fun σ H Q => ta σ H fun x H' => ∃ k, TruV K x H' k ∧ Q k H') σ H (!xs.isEmpty) := fun H1 e Q q =>
  h H1 e _ fun H2 e2 => ⟨_, .inl ⟨xs, ex_l (e.trans e2) hx, rfl⟩, q H2 e2⟩
/-- x is None, x is not None -/
theorem ev_isN (h : Ev ta σ H v) (hn : Ev tb σ H .non) : Ev (tOp (fun x y H Q => y = .non ∧ Q (.bl (decide (x = .non))) H) ta tb) σ H (.bl (decide (v = .non))) := ev_op h hn fun H1 _ Q q => (show V.non = .non ∧ Q (.bl (decide (v = .non))) H1 from ⟨rfl, q H1 (Ex.refl H1)⟩)
theorem ev_notN (h : Ev ta σ H v) (hn : Ev tb σ H .non) : Ev (tOp (fun x y H Q => y = .non ∧ Q (.bl (!decide (x = .non))) H) ta tb) σ H (.bl (!decide (v = .non))) := ev_op h hn fun H1 _ Q q => (show V.non = .non ∧ Q (.bl (!decide (v = .non))) H1 from ⟨rfl, q H1 (Ex.refl H1)⟩)
/-- for x in reversed(l), l new, whatever it holds -/
theorem s_forRevX {C : List V → Prop} {ta : TA} {j : Nat} (h : ∀ Q : List V → Hp → Prop, (∀ p xs H1, H p = none → Ex H H1 → H1 p = some (.lst xs) → C xs → Q [.ref p] H1) → ta σ H Q) (Pv : List V → Addr → Nat → L2.St → Hp → Prop) (h0 : ∀ xs p H1, H p = none → Ex H H1 → H1 p = some (.lst xs) → C xs → Pv xs p 0 σ H1) (hl : ∀ xs p i σ' H', i ≤ xs.length → Pv xs p i σ' H' → SqL K H' p xs)
    (hs : ∀ xs p i x σ' H', C xs → xs[xs.length - 1 - i]? = some x → i < xs.length → Pv xs p i σ' H' → tu { D with nx := Pv xs p (i + 1), ct := Pv xs p (i + 1), bk := D.nx } (σ'.set j (some x)) H') (hd : ∀ xs p σ' H', C xs → Pv xs p xs.length σ' H' → D.nx σ' H') : tFor (iRev K ta) (gName j) tu D σ H := by
  refine h _ fun p xs H1 hp e1 h1 hc => ⟨p, xs, rfl, sq_of h1, ?_⟩
  refine ⟨fun i m σ H => m = xs.length - i ∧ i ≤ xs.length ∧ Pv xs p i σ H, ⟨xs.length, by simp, Nat.zero_le _, h0 xs p H1 hp e1 h1 hc⟩, ?_⟩
  rintro i m σ H ⟨rfl, hi, pv⟩
  have q := hl xs p i σ H hi pv
  by_cases hlt : i < xs.length
  · have hx : xs[xs.length - 1 - i]? = some (xs[xs.length - 1 - i]'(by omega)) := List.getElem?_eq_getElem (by omega)
    refine .inr ⟨⟨hlt, xs, _, q, hx⟩, Pv xs p (i + 1), fun σ' H' p' => ⟨xs.length - (i + 1), by omega, rfl, hlt, p'⟩, fun x H' y => ?_⟩
    obtain ⟨rfl, hy⟩ := y
    exact hs xs p i x σ _ hc (hy xs q) hlt pv
  · have : i = xs.length := by omega
    subst this
    exact .inl ⟨Nat.le_refl _, hd xs p σ H hc pv⟩
theorem q_forRevX {C : List V → Prop} {ta : TA} {j : Nat} (h : ∀ Q : List V → Hp → Prop, (∀ p xs H1, H p = none → Ex H H1 → H1 p = some (.lst xs) → C xs → Q [.ref p] H1) → ta σ H Q) (Pv : List V → Addr → Nat → L2.St → Hp → Prop) (h0 : ∀ xs p H1, H p = none → Ex H H1 → H1 p = some (.lst xs) → C xs → Pv xs p 0 σ H1) (hl : ∀ xs p i σ' H', i ≤ xs.length → Pv xs p i σ' H' → SqL K H' p xs)
    (hs : ∀ xs p i x σ' H', C xs → xs[xs.length - 1 - i]? = some x → i < xs.length → Pv xs p i σ' H' → tu { D with nx := Pv xs p (i + 1), ct := Pv xs p (i + 1), bk := tz D } (σ'.set j (some x)) H') (hd : ∀ xs p σ' H', C xs → Pv xs p xs.length σ' H' → tz D σ' H') : tSeq (tFor (iRev K ta) (gName j) tu) tz D σ H :=
  s_forRevX (D := { D with nx := tz D }) h Pv h0 hl hs hd
end
end KC
set_option Elab.async false
set_option linter.all false
set_option maxRecDepth 100000
set_option maxHeartbeats 4000000
namespace K06
open PySem PySem.Spec PyProof.Rows L2 GX KC Evl
def topS (i : Nat) : Stmt := PySem.Challenge.pw_kraftroom_k06_whole_certificates.main.body.getD i (.Pass ⟨0, 0, 0, 0⟩)
abbrev s_ranks : Stmt := topS 2
theorem sc_ranks : FnScope ["weights", "order", "_", "symbol"] ["weights"] (defScope s_ranks) := ⟨rfl, rfl, rfl, by decide +kernel, rfl, by decide +kernel, by decide +kernel⟩
abbrev s_cost : Stmt := topS 3
theorem sc_cost : FnScope ["weights", "lengths"] ["weights", "lengths"] (defScope s_cost) := ⟨rfl, rfl, rfl, by decide +kernel, rfl, by decide +kernel, by decide +kernel⟩
abbrev s_rests : Stmt := topS 4
theorem sc_rests : FnScope ["weights", "sums", "weight"] ["weights"] (defScope s_rests) := ⟨rfl, rfl, rfl, by decide +kernel, rfl, by decide +kernel, by decide +kernel⟩
abbrev s_word_counts : Stmt := topS 5
theorem sc_word_counts : FnScope ["limit", "depth", "free", "left"] ["limit", "depth", "free", "left"] (defScope s_word_counts) := ⟨rfl, rfl, rfl, by decide +kernel, rfl, by decide +kernel, by decide +kernel⟩
abbrev s_stage_choices : Stmt := topS 6
theorem sc_stage_choices : FnScope ["sums", "limit", "stage", "depth", "m", "free", "left", "found", "a"] ["sums", "limit", "stage"] (defScope s_stage_choices) := ⟨rfl, rfl, rfl, by decide +kernel, rfl, by decide +kernel, by decide +kernel⟩
abbrev s_reached_stages : Stmt := topS 7
theorem sc_reached_stages : FnScope ["weights", "limit", "sums", "found", "waiting", "following", "stage", "choice"] ["weights", "limit"] (defScope s_reached_stages) := ⟨rfl, rfl, rfl, by decide +kernel, rfl, by decide +kernel, by decide +kernel⟩
abbrev s_least_sum : Stmt := topS 8
theorem sc_least_sum : FnScope ["choice", "known", "_", "price", "following"] ["choice", "known"] (defScope s_least_sum) := ⟨rfl, rfl, rfl, by decide +kernel, rfl, by decide +kernel, by decide +kernel⟩
abbrev s_stage_values : Stmt := topS 9
theorem sc_stage_values : FnScope ["stages", "known", "stage", "sums", "choice", "total"] ["stages"] (defScope s_stage_values) := ⟨rfl, rfl, rfl, by decide +kernel, rfl, by decide +kernel, by decide +kernel⟩
abbrev s_values : Stmt := topS 10
theorem sc_values : FnScope ["weights", "limit"] ["weights", "limit"] (defScope s_values) := ⟨rfl, rfl, rfl, by decide +kernel, rfl, by decide +kernel, by decide +kernel⟩
abbrev s_least_lengths : Stmt := topS 11
theorem sc_least_lengths : FnScope ["weights", "limit", "stages", "known", "order", "lengths", "stage", "depth", "m", "_", "best", "choice", "a", "symbol"] ["weights", "limit"] (defScope s_least_lengths) := ⟨rfl, rfl, rfl, by decide +kernel, rfl, by decide +kernel, by decide +kernel⟩
abbrev s_room : Stmt := topS 14
theorem sc_room : FnScope ["lengths", "depth", "taken"] ["lengths"] (defScope s_room) := ⟨rfl, rfl, rfl, by decide +kernel, rfl, by decide +kernel, by decide +kernel⟩
abbrev s_is_code : Stmt := topS 15
theorem sc_is_code : FnScope ["lengths"] ["lengths"] (defScope s_is_code) := ⟨rfl, rfl, rfl, by decide +kernel, rfl, by decide +kernel, by decide +kernel⟩
abbrev s_make_certificate : Stmt := topS 17
theorem sc_make_certificate : FnScope ["weights", "limit", "ceiling", "known", "certificate", "stage"] ["weights", "limit"] (defScope s_make_certificate) := ⟨rfl, rfl, rfl, by decide +kernel, rfl, by decide +kernel, by decide +kernel⟩
abbrev s_keeps_limit : Stmt := topS 18
theorem sc_keeps_limit : FnScope ["lengths", "limit"] ["lengths", "limit"] (defScope s_keeps_limit) := ⟨rfl, rfl, rfl, by decide +kernel, rfl, by decide +kernel, by decide +kernel⟩
abbrev s_is_stage_low_enough : Stmt := topS 19
theorem sc_is_stage_low_enough : FnScope ["sums", "limit", "stage", "certificate", "_", "price", "following", "bound"] ["sums", "limit", "stage", "certificate"] (defScope s_is_stage_low_enough) := ⟨rfl, rfl, rfl, by decide +kernel, rfl, by decide +kernel, by decide +kernel⟩
abbrev s_is_sound : Stmt := topS 20
theorem sc_is_sound : FnScope ["weights", "limit", "certificate", "sums"] ["weights", "limit", "certificate"] (defScope s_is_sound) := ⟨rfl, rfl, rfl, by decide +kernel, rfl, by decide +kernel, by decide +kernel⟩
abbrev s_is_shown : Stmt := topS 21
theorem sc_is_shown : FnScope ["weights", "limit", "lengths", "certificate"] ["weights", "limit", "lengths", "certificate"] (defScope s_is_shown) := ⟨rfl, rfl, rfl, by decide +kernel, rfl, by decide +kernel, by decide +kernel⟩
abbrev s_law_cell : Stmt := topS 23
theorem sc_law_cell : FnScope ["script", "k"] ["script", "k"] (defScope s_law_cell) := ⟨rfl, rfl, rfl, by decide +kernel, rfl, by decide +kernel, by decide +kernel⟩
abbrev s_law_weights : Stmt := topS 24
theorem sc_law_weights : FnScope ["script", "first", "many", "weights", "k", "cell", "weight"] ["script", "first", "many"] (defScope s_law_weights) := ⟨rfl, rfl, rfl, by decide +kernel, rfl, by decide +kernel, by decide +kernel⟩
abbrev s_law_ranks : Stmt := topS 25
theorem sc_law_ranks : FnScope ["weights", "order", "turn", "best", "k"] ["weights"] (defScope s_law_ranks) := ⟨rfl, rfl, rfl, by decide +kernel, rfl, by decide +kernel, by decide +kernel⟩
abbrev s_law_least_limit : Stmt := topS 26
theorem sc_law_least_limit : FnScope ["many", "limit", "turn"] ["many"] (defScope s_law_least_limit) := ⟨rfl, rfl, rfl, by decide +kernel, rfl, by decide +kernel, by decide +kernel⟩
abbrev s_law_sums : Stmt := topS 27
theorem sc_law_sums : FnScope ["weights", "order", "sums", "back"] ["weights"] (defScope s_law_sums) := ⟨rfl, rfl, rfl, by decide +kernel, rfl, by decide +kernel, by decide +kernel⟩
abbrev s_law_choices_by : Stmt := topS 28
theorem sc_law_choices_by : FnScope ["sums", "limit", "stage", "depth", "m", "k", "n", "found", "a", "allowed"] ["sums", "limit", "stage"] (defScope s_law_choices_by) := ⟨rfl, rfl, rfl, by decide +kernel, rfl, by decide +kernel, by decide +kernel⟩
abbrev s_law_choices : Stmt := topS 29
theorem sc_law_choices : FnScope ["weights", "limit", "stage"] ["weights", "limit", "stage"] (defScope s_law_choices) := ⟨rfl, rfl, rfl, by decide +kernel, rfl, by decide +kernel, by decide +kernel⟩
abbrev s_law_all_least : Stmt := topS 30
theorem sc_law_all_least : FnScope ["weights", "limit", "best", "many", "rows", "k", "longer", "row", "length", "used", "price"] ["weights", "limit"] (defScope s_law_all_least) := ⟨rfl, rfl, rfl, by decide +kernel, rfl, by decide +kernel, by decide +kernel⟩
abbrev s_law_judged : Stmt := topS 31
theorem sc_law_judged : FnScope ["weights", "limit", "lengths", "certificate", "length", "stage", "choice", "behind", "k"] ["weights", "limit", "lengths", "certificate"] (defScope s_law_judged) := ⟨rfl, rfl, rfl, by decide +kernel, rfl, by decide +kernel, by decide +kernel⟩
abbrev s_law_other : Stmt := topS 32
theorem sc_law_other : FnScope ["certificate", "cell", "many", "limit", "stages", "other", "kind", "at", "stage", "small"] ["certificate", "cell", "many", "limit"] (defScope s_law_other) := ⟨rfl, rfl, rfl, by decide +kernel, rfl, by decide +kernel, by decide +kernel⟩
abbrev s_law_lengths : Stmt := topS 33
theorem sc_law_lengths : FnScope ["lengths", "cell", "limit", "other"] ["lengths", "cell", "limit"] (defScope s_law_lengths) := ⟨rfl, rfl, rfl, by decide +kernel, rfl, by decide +kernel, by decide +kernel⟩
abbrev s_law : Stmt := topS 34
theorem sc_law : FnScope ["script", "many", "weights", "limit", "found", "least", "other", "lengths", "kept", "given", "handed", "told", "more", "certificate"] ["script"] (defScope s_law) := ⟨rfl, rfl, rfl, by decide +kernel, rfl, by decide +kernel, by decide +kernel⟩
section
variable {P : Program} {w : World} {K : PySem.W.Frag} {mg : Str → Option Value} {base : Heap}
theorem ok_cell {f : Addr} {fd : FuncData} {k : Nat} (F : Fun K "_law_cell" "_law_cell" s_law_cell f fd) (B : Bs mg) : FnOk P w K mg base CX0 (k + 1) f fd ["script", "k"] (spCell K) := by
  refine F.ok sc_law_cell (fun vs H Q E h => ?_) (fun cdv A outer s H vs Q E hr h => ?_)
  · obtain ⟨l, ns, j, rfl, _⟩ := h
    rfl
  · obtain ⟨l, ns, j, rfl, hs, q⟩ := h
    refine ⟨_, (pss_cons (ps_if (pt_cmpR op_lt (pv 1) (pe_callB call_len_seq (by rfl) B.len PySem.boot_len (pa_cons (pv 0) pa_nil)) (nomark _)) (pss_one (ps_ret (pe_callTy call_int1 (by rfl) B.int (by decide +kernel) (pa_cons (pe_ix ix_list (pv 0) (pv 1) (fun _ _ => rfl)) pa_nil)))) pss_nil)
      (pss_one (ps_ret pe_int))), ?_⟩
    refine ⟨_, rfl, _, rfl, l, _, rfl, .inl hs, _, _, rfl, rfl, _, rfl, ?_⟩
    by_cases hj : j < ns.length
    · have hd : decide ((j : Int) < ((ns.map V.int).length : Int)) = true := decide_eq_true (by rw [List.length_map]; omega)
      rw [hd]
      exact ⟨_, rfl, _, rfl, l, _, _, _, rfl, rfl, hs, atI_cell hj, .inl ⟨_, rfl, q⟩⟩
    · have hd : decide ((j : Int) < ((ns.map V.int).length : Int)) = false := decide_eq_false (by rw [List.length_map]; omega)
      rw [hd]
      rw [cell_out hj] at q
      exact q
/-! ### the weights -/
def weightOf (c : Int) : Int := if c % 23 = 7 then c / 23 % 1000001 else if c % 5 = 1 then c / 5 % 100 else c % 9
def weightsL (ns : List Int) (first n : Nat) : List Int := (List.range n).map fun k => weightOf (cellOf ns (first + k))
theorem weightsL_succ (ns : List Int) (first n : Nat) : weightsL ns first (n + 1) = weightsL ns first n ++ [weightOf (cellOf ns (first + n))] := by
  unfold weightsL
  rw [List.range_succ, List.map_append] <;> rfl
theorem weightsL_len (ns : List Int) (first n : Nat) : (weightsL ns first n).length = n := by simp [weightsL]
def spWeights (K : PySem.W.Frag) : Sp := fun vs H Q _ => ∃ (l : Addr) (ns : List Int) (first n : Nat), vs = [.ref l, .int (first : Int), .int (n : Int)] ∧ SqL K H l (ns.map V.int) ∧ n ≤ 1000 ∧ RetL ((weightsL ns first n).map V.int) H Q
theorem spv_cell {H : Hp} {l : Addr} {ns : List Int} {z : Int} {j : Nat} (hs : SqL K H l (ns.map V.int)) (e : z = (j : Int)) : SpV (spCell K) ([.ref l, .int z] ++ []) H (.int (cellOf ns j)) := fun H1 e1 Q q E => ⟨l, ns, j, by rw [e]; rfl, ex_l e1 hs, q H1 (Ex.refl H1)⟩
theorem ok_weights {f : Addr} {fd : FuncData} {k : Nat} (F : Fun K "_law_weights" "_law_weights" s_law_weights f fd) (B : Bs mg) (C_law_cell : Cal P w K mg base "_law_cell" 1 ["script", "k"] (spCell K)) : FnOk P w K mg base CX0 (k + 2) f fd ["script", "first", "many"] (spWeights K) := by
  refine F.ok sc_law_weights (fun vs H Q E h => ?_) (fun cdv A outer s H vs Q E hr h => ?_)
  · obtain ⟨l, ns, first, n, rfl, _⟩ := h
    rfl
  · obtain ⟨l, ns, first, n, rfl, hs, hn, q⟩ := h
    refine ⟨_, (pss_cons (ps_set (i := 3) sc_law_weights.nd rfl (Or.inl rfl) (pe_lst pa_nil))
      (pss_cons (ps_for PassesOwn.never rfl (pi_range1 (by rfl) B.range (pa_cons (pv 2) pa_nil)) (pg_name (i := 4) sc_law_weights.nd rfl (Or.inl rfl)) (pss_cons (ps_set (i := 5) sc_law_weights.nd rfl (Or.inl rfl) (pe_callC C_law_cell (hr.mono (by omega)) (by rfl) (pa_cons (pv 0) (pa_cons (pe_op op_add (pv 1) (pv 4)) pa_nil))))
      (pss_cons (ps_set (i := 6) sc_law_weights.nd rfl (Or.inl rfl) (pe_op op_mod (pv 5) pe_int))
      (pss_cons (ps_if (pt_cmpR op_eq (pe_op op_mod (pv 5) pe_int) pe_int (nomark _)) (pss_one (ps_set (i := 6) sc_law_weights.nd rfl (Or.inl rfl) (pe_op op_mod (pe_op op_fdiv (pv 5) pe_int) pe_int))) pss_nil)
      (pss_cons (ps_if (pt_cmpR op_eq (pe_op op_mod (pv 5) pe_int) pe_int (nomark _)) (pss_one (ps_set (i := 6) sc_law_weights.nd rfl (Or.inl rfl) (pe_op op_mod (pe_op op_fdiv (pv 5) pe_int) pe_int))) pss_nil)
      (pss_one (ps_expr (pe_bm PySem.F.plainAttrs_list PySem.F.slot_list_append PySem.F.type_list_append mt_append (pv 3) (pa_cons (pv 6) pa_nil)))))))))
      (pss_one (ps_ret (pv 3))))), ?_⟩
    refine q_asgL (el_lst ea_nil (by decide)) fun p H1 hp e1 h1 => ?_
    refine q_forR1 (n := (n : Int)) (ea1 (ev_var rfl)) ⟨by omega, by omega⟩
      (fun i σ H' => ∃ a b c, σ = [some (.ref l), some (.int (first : Int)), some (.int (n : Int)), some (.ref p), a, b, c] ∧ Ex H H' ∧ H' p = some (.lst ((weightsL ns first i).map V.int)))
      (fun H2 e2 => ⟨none, none, none, rfl, e1.trans e2, e2 p _ h1⟩) ?_ ?_
    · rintro i σ H' hi ⟨a, b, c, rfl, eh, hl⟩
      have hs' := ex_l eh hs
      -- cell = _law_cell(script, first + k)
      refine q_asg (ev_call (ea2 (ev_var rfl) (ev_op (ev_var rfl) (ev_var rfl) rv_I0)) (spv_cell (j := first + i) hs' (by omega))) fun H2 e2 => ?_
      generalize hc : cellOf ns (first + i) = z
      -- weight = cell % 9
      refine q_asg (ev_op (ev_var rfl) ev_c (rv_mod (by decide))) fun H3 e3 => ?_
      refine q_ifAsg (v := .int (if z % 5 = 1 then z / 5 % 100 else z % 9)) (et_test (ev_op (ev_op (ev_var rfl) ev_c (rv_mod (by decide))) ev_c (rv_eq rfl))) (fun hb => ?_) (fun hb => ?_) fun H4 e4 => ?_
      · have hb' : z % 5 = 1 := V.int.inj (of_decide_eq_true hb)
        rw [if_pos hb']
        exact ev_op (ev_op (ev_var rfl) ev_c (rv_div (by decide) (by decide))) ev_c (rv_mod (by decide))
      · have hb' : ¬ z % 5 = 1 := fun e => of_decide_eq_false hb (congrArg V.int e)
        rw [if_neg hb']
        rfl
      refine q_ifAsg (v := .int (weightOf z)) (et_test (ev_op (ev_op (ev_var rfl) ev_c (rv_mod (by decide))) ev_c (rv_eq rfl))) (fun hb => ?_) (fun hb => ?_) fun H5 e5 => ?_
      · have hb' : z % 23 = 7 := V.int.inj (of_decide_eq_true hb)
        unfold weightOf
        rw [if_pos hb']
        exact ev_op (ev_op (ev_var rfl) ev_c (rv_div (by decide) (by decide))) ev_c (rv_mod (by decide))
      · have hb' : ¬ z % 23 = 7 := fun e => of_decide_eq_false hb (congrArg V.int e)
        unfold weightOf
        rw [if_neg hb']
        rfl
      have e25 : Ex H' H5 := ((e2.trans e3).trans e4).trans e5
      refine s_app (e25 p _ hl) (ev_var rfl) (ev_var rfl) (by rw [List.length_map, weightsL_len]; omega) fun H6 e6 => ?_
      refine ⟨_, _, _, rfl, Ex.mut ((eh.trans e25).trans e6) hp, ?_⟩
      rw [upd_same, weightsL_succ, hc, List.map_append]
      rfl
    · rintro σ H' ⟨a, b, c, rfl, eh, hl⟩
      have hn' : ((n : Int)).toNat = n := by omega
      rw [hn'] at hl
      exact s_ret (ev_var rfl) fun H2 e2 => q p H2 hp (eh.trans e2) (e2 p _ hl)
end
end K06
set_option linter.all false
/-! The mathematics of ranks, rests and choices: plain lists. -/
namespace M03
def wAt (ws : List Int) (k : Nat) : Int := ws.getD k 0
/-- k comes before j -/
def Rk (ws : List Int) (k j : Nat) : Prop := wAt ws j < wAt ws k ∨ (wAt ws k = wAt ws j ∧ k < j)
structure IsRank (ws : List Int) (ord : List Nat) : Prop where
  pw : ord.Pairwise (Rk ws)
  mem : ∀ k, k ∈ ord ↔ k < ws.length
theorem Rk.irrefl {ws : List Int} {k : Nat} (h : Rk ws k k) : False := by
  unfold Rk at h; omega
theorem Rk.asymm {ws : List Int} {k j : Nat} (h : Rk ws k j) (h2 : Rk ws j k) : False := by
  unfold Rk at h h2; omega
theorem Rk.trans {ws : List Int} {k j i : Nat} (h : Rk ws k j) (h2 : Rk ws j i) : Rk ws k i := by
  unfold Rk at *; omega
theorem Rk.total {ws : List Int} {k j : Nat} (h : k ≠ j) : Rk ws k j ∨ Rk ws j k := by
  unfold Rk; omega
theorem uniq (ws : List Int) : ∀ (a b : List Nat), a.Pairwise (Rk ws) → b.Pairwise (Rk ws) → (∀ k, k ∈ a ↔ k ∈ b) → a = b
  | [], [], _, _, _ => rfl
  | [], y :: b, _, _, h => absurd ((h y).mpr List.mem_cons_self) (by simp)
  | x :: a, [], _, _, h => absurd ((h x).mp List.mem_cons_self) (by simp)
  | x :: a, y :: b, ha, hb, h => by
    have ha' := List.pairwise_cons.mp ha
    have hb' := List.pairwise_cons.mp hb
    have e : x = y := by
      rcases List.mem_cons.mp ((h x).mp List.mem_cons_self) with e | e
      · exact e
      · rcases List.mem_cons.mp ((h y).mpr List.mem_cons_self) with e2 | e2
        · exact e2.symm
        · exact (Rk.asymm (hb'.1 x e) (ha'.1 y e2)).elim
    subst e
    rw [uniq ws a b ha'.2 hb'.2 fun k => ?_]
    constructor
    · intro hk
      rcases List.mem_cons.mp ((h k).mp (List.mem_cons_of_mem _ hk)) with e | e
      · subst e; exact (Rk.irrefl (ha'.1 _ hk)).elim
      · exact e
    · intro hk
      rcases List.mem_cons.mp ((h k).mpr (List.mem_cons_of_mem _ hk)) with e | e
      · subst e; exact (Rk.irrefl (hb'.1 _ hk)).elim
      · exact e
theorem IsRank.uniq {ws : List Int} {a b : List Nat} (ha : IsRank ws a) (hb : IsRank ws b) : a = b := M03.uniq ws a b ha.pw hb.pw fun k => (ha.mem k).trans (hb.mem k).symm
def leK (ws : List Int) (k j : Nat) : Bool := decide (wAt ws j < wAt ws k ∨ (wAt ws k = wAt ws j ∧ k ≤ j))
def rankL (ws : List Int) : List Nat := (List.range ws.length).mergeSort (leK ws)
theorem rank_perm (ws : List Int) : (rankL ws).Perm (List.range ws.length) := List.mergeSort_perm _ _
theorem rank_is (ws : List Int) : IsRank ws (rankL ws) := by
  refine ⟨?_, fun k => ?_⟩
  · have h1 : (rankL ws).Pairwise fun a b => leK ws a b = true := List.pairwise_mergeSort (fun a b c => by unfold leK; simp only [decide_eq_true_eq]; omega) (fun a b => by unfold leK; simp only [Bool.or_eq_true, decide_eq_true_eq]; omega) _
    have h2 : (rankL ws).Nodup := (rank_perm ws).nodup_iff.mpr List.nodup_range
    have h3 := h1.and h2
    refine h3.imp fun {a b} h => ?_
    obtain ⟨h4, h5⟩ := h
    unfold leK at h4
    unfold Rk
    have h6 := of_decide_eq_true h4
    have h7 : a ≠ b := h5
    omega
  · rw [(rank_perm ws).mem_iff, List.mem_range]
theorem rank_len (ws : List Int) : (rankL ws).length = ws.length := by rw [(rank_perm ws).length_eq, List.length_range]
theorem rank_lt {ws : List Int} {k : Nat} (h : k ∈ rankL ws) : k < ws.length := ((rank_is ws).mem k).mp h
/-- choosing the best of the rest again and again -/
structure Part (ws : List Int) (ord : List Nat) : Prop where
  pw : ord.Pairwise (Rk ws)
  lt : ∀ k ∈ ord, k < ws.length
  before : ∀ k ∈ ord, ∀ j, j < ws.length → j ∉ ord → Rk ws k j
theorem Part.nil (ws : List Int) : Part ws [] := ⟨.nil, by simp, by simp⟩
/-- b: the best among the first i that ord has not -/
def Best (ws : List Int) (ord : List Nat) (i : Nat) : Option Nat → Prop
  | none => ∀ j, j < i → j ∈ ord
  | some b => b < i ∧ b ∉ ord ∧ ∀ j, j < i → j ∉ ord → j ≠ b → Rk ws b j
theorem Part.add {ws : List Int} {ord : List Nat} {b : Nat} (p : Part ws ord) (h : Best ws ord ws.length (some b)) : Part ws (ord ++ [b]) := by
  obtain ⟨h1, h2, h3⟩ := h
  refine ⟨List.pairwise_append.mpr ⟨p.pw, List.pairwise_singleton _ _, fun a ha c hc => ?_⟩, fun k hk => ?_, fun k hk j hj hn => ?_⟩
  · rw [List.mem_singleton.mp hc]
    exact p.before a ha b h1 h2
  · rcases List.mem_append.mp hk with h | h
    · exact p.lt k h
    · rw [List.mem_singleton.mp h]; exact h1
  · have hn1 : j ∉ ord := fun z => hn (List.mem_append_left _ z)
    have hn2 : j ≠ b := fun z => hn (by rw [z]; exact List.mem_append_right _ (List.mem_singleton.mpr rfl))
    rcases List.mem_append.mp hk with h | h
    · exact p.before k h j hj hn1
    · rw [List.mem_singleton.mp h]
      exact h3 j hj hn1 hn2
theorem nodup_sub : ∀ (l m : List Nat), l.Nodup → (∀ x ∈ l, x ∈ m) → l.length ≤ m.length
  | [], _, _, _ => Nat.zero_le _
  | x :: l, m, h, hs => by
    have h' := List.nodup_cons.mp h
    have hx := hs x List.mem_cons_self
    have h1 := nodup_sub l (m.erase x) h'.2 fun y hy => (List.mem_erase_of_ne (fun e => h'.1 (by rw [← e]; exact hy))).mpr (hs y (List.mem_cons_of_mem _ hy))
    rw [List.length_erase_of_mem hx] at h1
    have h2 := List.length_pos_of_mem hx
    simp only [List.length_cons]
    omega
theorem nodup_le {ord : List Nat} {n : Nat} (h : ord.Nodup) (hl : ∀ k ∈ ord, k < n) : ord.length ≤ n := by
  have h2 := nodup_sub ord (List.range n) h fun k hk => List.mem_range.mpr (hl k hk)
  rwa [List.length_range] at h2
theorem Part.nodup {ws : List Int} {ord : List Nat} (p : Part ws ord) : ord.Nodup := p.pw.imp fun {a b} h e => by subst e; exact h.irrefl
/-- a best one is there while ord is not whole -/
theorem Part.some {ws : List Int} {ord : List Nat} (p : Part ws ord) (h : ord.length < ws.length) {o : Option Nat} (hb : Best ws ord ws.length o) : ∃ b, o = .some b := by
  cases o with
  | some b => exact ⟨b, rfl⟩
  | none =>
    have h2 := nodup_sub (List.range ws.length) ord List.nodup_range fun k hk => hb k (List.mem_range.mp hk)
    rw [List.length_range] at h2
    omega
theorem Part.whole {ws : List Int} {ord : List Nat} (p : Part ws ord) (h : ord.length = ws.length) : ord = rankL ws := by
  refine IsRank.uniq ⟨p.pw, fun k => ⟨p.lt k, fun hk => ?_⟩⟩ (rank_is ws)
  by_cases hm : k ∈ ord
  · exact hm
  · exfalso
    have h2 : (k :: ord).Nodup := List.nodup_cons.mpr ⟨hm, p.nodup⟩
    have h3 := nodup_le h2 (n := ws.length) fun j hj => by
      rcases List.mem_cons.mp hj with e | e
      · rw [e]; exact hk
      · exact p.lt j e
    simp only [List.length_cons] at h3
    omega
theorem Best.zero (ws : List Int) (ord : List Nat) : Best ws ord 0 none := fun j h => absurd h (Nat.not_lt_zero j)
theorem Best.skip {ws : List Int} {ord : List Nat} {i : Nat} {o : Option Nat} (h : Best ws ord i o) (hi : i ∈ ord) : Best ws ord (i + 1) o := by
  cases o with
  | none =>
    intro j hj
    by_cases e : j = i
    · rw [e]; exact hi
    · exact h j (by omega)
  | some b =>
    obtain ⟨h1, h2, h3⟩ := h
    refine ⟨by omega, h2, fun j hj hn hb => ?_⟩
    by_cases e : j = i
    · rw [e] at hn; exact absurd hi hn
    · exact h3 j (by omega) hn hb
theorem Best.first {ws : List Int} {ord : List Nat} {i : Nat} (h : Best ws ord i none) (hi : i ∉ ord) : Best ws ord (i + 1) (some i) := by
  refine ⟨by omega, hi, fun j hj hn hb => ?_⟩
  exact absurd (h j (by omega)) hn
theorem Best.take {ws : List Int} {ord : List Nat} {i b : Nat} (h : Best ws ord i (some b)) (hi : i ∉ ord) (hw : wAt ws b < wAt ws i) : Best ws ord (i + 1) (some i) := by
  obtain ⟨h1, h2, h3⟩ := h
  refine ⟨by omega, hi, fun j hj hn hb => ?_⟩
  by_cases e : j = b
  · rw [e]; exact .inl hw
  · have := h3 j (by omega) hn e
    exact Rk.trans (.inl hw) this
theorem Best.keep {ws : List Int} {ord : List Nat} {i b : Nat} (h : Best ws ord i (some b)) (hw : ¬ wAt ws b < wAt ws i) : Best ws ord (i + 1) (some b) := by
  obtain ⟨h1, h2, h3⟩ := h
  refine ⟨by omega, h2, fun j hj hn hb => ?_⟩
  by_cases e : j = i
  · rw [e]; unfold Rk; omega
  · exact h3 j (by omega) hn hb

/-! ### rests -/
def restL : List Int → List Int
  | [] => [0]
  | v :: r => (v + (restL r).headD 0) :: restL r
theorem restL_len : ∀ vs : List Int, (restL vs).length = vs.length + 1
  | [] => rfl
  | v :: r => by simp [restL, restL_len r]
def ranked (ws : List Int) : List Int := (rankL ws).map (wAt ws)
theorem ranked_len (ws : List Int) : (ranked ws).length = ws.length := by simp [ranked, rank_len]
theorem ranked_perm (ws : List Int) : (ranked ws).Perm ws := by
  have h := (rank_perm ws).map (wAt ws)
  have e : (List.range ws.length).map (wAt ws) = ws := by
    refine List.ext_getElem (by simp) fun i h1 h2 => ?_
    simp [wAt, List.getD_eq_getElem?_getD, h2]
  rw [e] at h
  exact h
theorem ranked_desc (ws : List Int) : (ranked ws).Pairwise (fun a b => b ≤ a) := by
  unfold ranked
  refine List.pairwise_map.mpr ((rank_is ws).pw.imp fun {a b} h => ?_)
  unfold Rk at h
  omega
theorem sorted_uniq : ∀ (a b : List Int), a.Pairwise (· ≤ ·) → b.Pairwise (· ≤ ·) → a.Perm b → a = b
  | [], b, _, _, h => (List.Perm.nil_eq h)
  | x :: a, [], _, _, h => absurd h.length_eq (by simp)
  | x :: a, y :: b, ha, hb, h => by
    have ha' := List.pairwise_cons.mp ha
    have hb' := List.pairwise_cons.mp hb
    have e : x = y := by
      have h1 : x ≤ y := by
        rcases List.mem_cons.mp (h.mem_iff.mpr (List.mem_cons_self (a := y) (l := b))) with e | e
        · omega
        · exact ha'.1 y e
      have h2 : y ≤ x := by
        rcases List.mem_cons.mp (h.mem_iff.mp (List.mem_cons_self (a := x) (l := a))) with e | e
        · omega
        · exact hb'.1 x e
      omega
    subst e
    rw [sorted_uniq a b ha'.2 hb'.2 h.cons_inv]
theorem asc_is {ws asc : List Int} (h : asc.Perm ws) (hs : asc.Pairwise (· ≤ ·)) : asc = (ranked ws).reverse := by
  refine sorted_uniq _ _ hs (List.pairwise_reverse.mpr (ranked_desc ws)) ?_
  exact h.trans ((ranked_perm ws).symm.trans (List.reverse_perm _).symm)
/-- sums of the beginnings -/
def pre : List Int → List Int
  | [] => [0]
  | v :: r => 0 :: (pre r).map (v + ·)
def sumsA : List Int → List Int → List Int := fun acc vs => vs.foldl (fun acc v => acc ++ [acc.getLastD 0 + v]) acc
theorem restL_snoc : ∀ (vs : List Int), ∀ l, l = vs.reverse → ∀ v, restL (v :: vs) = (v + (restL vs).headD 0) :: restL vs := fun _ _ _ _ => rfl
/-! ### the choices -/
abbrev Nxt := Option (Int × Int × Int)
def chOne (sums : List Int) (limit depth m k : Int) (a : Nat) : Option (Int × Int × Nxt) :=
  let n : Int := (sums.length : Int) - 1
  let ok : Bool := if depth = limit then decide ((a : Int) = n - m) else (decide (0 < depth) || decide ((a : Int) = 0))
  if ok && decide (m + a = n) then some (a, 0, none)
  else if ok && decide ((a : Int) < k) then some (a, sums.getD (m + a).toNat 0, some (depth + 1, m + a, if n - m - a < 2 * (k - a) then n - m - a else 2 * (k - a)))
  else none
def chN (sums : List Int) (m k : Int) : Nat := ((if (sums.length : Int) - 1 - m < k then (sums.length : Int) - 1 - m else k) + 1).toNat
def chL (sums : List Int) (limit depth m k : Int) : List (Int × Int × Nxt) := (List.range (chN sums m k)).filterMap (chOne sums limit depth m k)
end M03
set_option Elab.async false
set_option linter.all false
set_option maxRecDepth 100000
set_option maxHeartbeats 4000000
namespace K06
open PySem PySem.Spec PyProof.Rows L2 GX KC Evl M03
section
variable {P : Program} {w : World} {K : PySem.W.Frag} {mg : Str → Option Value} {base : Heap}
def nats (ks : List Nat) : List V := ks.map fun (k : Nat) => V.int (k : Int)
theorem nats_app (a b : List Nat) : nats (a ++ b) = nats a ++ nats b := List.map_append
theorem nats_len (a : List Nat) : (nats a).length = a.length := List.length_map _
theorem nats_flat (a : List Nat) : (nats a).all flatV = true := by
  rw [List.all_eq_true]
  intro x hx
  obtain ⟨k, _, e⟩ := List.mem_map.mp hx
  rw [← e]
  rfl
theorem nats_in (i : Nat) (a : List Nat) : inV (.int (i : Int)) (nats a) = decide (i ∈ a) := by
  induction a with
  | nil => rfl
  | cons k r ih =>
    have e : inV (.int (i : Int)) (nats (k :: r)) = (eqV (.int (k : Int)) (.int (i : Int)) || inV (.int (i : Int)) (nats r)) := rfl
    rw [e, ih]
    have e2 : eqV (.int (k : Int)) (.int (i : Int)) = decide (k = i) := by
      by_cases h : k = i
      · subst h
        rw [decide_eq_true rfl]
        simp [eqV]
      · rw [decide_eq_false h]
        simp [eqV]
        omega
    rw [e2]
    by_cases h : k = i
    · simp [h]
    · have h' : ¬ i = k := fun z => h z.symm
      simp [h, h']
def oV : Option Nat → V
  | none => .non
  | some b => .int (b : Int)
def spRanks (K : PySem.W.Frag) : Sp := fun vs H Q _ => ∃ (l : Addr) (ws : List Int), vs = [.ref l] ∧ SqL K H l (ws.map V.int) ∧ ws.length ≤ 64 ∧ RetL (nats (rankL ws)) H Q
theorem rv_notIn {p : Addr} {i : Nat} {ord : List Nat} {H : Hp} (h : SqL K H p (nats ord)) : RV (rIn K true) (.int (i : Int)) (.ref p) H (.bl (!decide (i ∈ ord))) := by
  have q := rv_niL (x := .int (i : Int)) h rfl (nats_flat ord)
  rw [nats_in] at q
  exact q
theorem ok_law_ranks {f : Addr} {fd : FuncData} {k : Nat} (F : Fun K "_law_ranks" "_law_ranks" s_law_ranks f fd) (B : Bs mg) : FnOk P w K mg base CX0 (k + 1) f fd ["weights"] (spRanks K) := by
  refine F.ok sc_law_ranks (fun vs H Q E h => ?_) (fun cdv A outer s H vs Q E hr h => ?_)
  · obtain ⟨l, ws, rfl, _⟩ := h
    rfl
  · obtain ⟨l, ws, rfl, hs, hn, q⟩ := h
    refine ⟨_, (pss_cons (ps_set (i := 1) sc_law_ranks.nd rfl (Or.inl rfl) (pe_lst pa_nil))
      (pss_cons (ps_for PassesOwn.never rfl (pi_range1 (by rfl) B.range (pa_cons (pe_callB call_len_seq (by rfl) B.len PySem.boot_len (pa_cons (pv 0) pa_nil)) pa_nil)) (pg_name (i := 2) sc_law_ranks.nd rfl (Or.inl rfl)) (pss_cons (ps_set (i := 3) sc_law_ranks.nd rfl (Or.inl rfl) pe_non)
      (pss_cons (ps_for PassesOwn.never rfl (pi_range1 (by rfl) B.range (pa_cons (pe_callB call_len_seq (by rfl) B.len PySem.boot_len (pa_cons (pv 0) pa_nil)) pa_nil)) (pg_name (i := 4) sc_law_ranks.nd rfl (Or.inl rfl)) (pss_one (ps_if (PW.pt (pw_and (pt_cmpR op_notIn_seq (pv 4) (pv 1) (by rfl)) (pw_and1 (PW.pt (pw_or (pt_cmpR op_isN (pv 3) pe_non (nomark _)) (pw_or1 (pt_cmpR op_gt (pe_ix ix_list (pv 0) (pv 4) (fun _ _ => rfl)) (pe_ix ix_list (pv 0) (pv 3) (fun _ _ => rfl)) (nomark _)))))))) (pss_one (ps_set (i := 3) sc_law_ranks.nd rfl (Or.inl rfl) (pv 4))) pss_nil)))
      (pss_one (ps_expr (pe_bm PySem.F.plainAttrs_list PySem.F.slot_list_append PySem.F.type_list_append mt_append (pv 1) (pa_cons (pv 3) pa_nil)))))))
      (pss_one (ps_ret (pv 1))))), ?_⟩
    refine q_asgL (el_lst ea_nil (by decide)) fun p H1 hp e1 h1 => ?_
    have hlen : ((ws.map V.int).length : Int) = (ws.length : Int) := by rw [List.length_map]
    refine q_forR1 (n := ((ws.map V.int).length : Int)) (ea1 (ev_len (ev_var rfl) (ex_l e1 hs))) ⟨by omega, by omega⟩
      (fun i σ H' => ∃ (ord : List Nat) (a b c : Option V), σ = [some (.ref l), some (.ref p), a, b, c] ∧ Ex H H' ∧ H' p = some (.lst (nats ord)) ∧ Part ws ord ∧ ord.length = i)
      (fun H2 e2 => ⟨[], none, none, none, rfl, e1.trans e2, e2 p _ h1, Part.nil ws, rfl⟩) ?_ ?_
    · rintro i σ H' hi ⟨ord, a, b, c, rfl, eh, hl, pt, rfl⟩
      refine q_asg ev_c fun H2 e2 => ?_
      refine q_forR1 (n := ((ws.map V.int).length : Int)) (ea1 (ev_len (ev_var rfl) (ex_l (eh.trans e2) hs))) ⟨by omega, by omega⟩
        (fun j σ H3 => ∃ (o : Option Nat) (c : Option V), σ = [some (.ref l), some (.ref p), some (.int (ord.length : Int)), some (oV o), c] ∧ Ex H H3 ∧ H3 p = some (.lst (nats ord)) ∧ Best ws ord j o)
        (fun H3 e3 => ⟨none, c, rfl, (eh.trans e2).trans e3, e3 p _ (e2 p _ hl), Best.zero ws ord⟩) ?_ ?_
      · rintro j σ H3 hj ⟨o, c, rfl, eh3, hl3, hb⟩
        have hs3 := ex_l eh3 hs
        have hj' : j < ws.length := by omega
        have ho : ∀ b, o = some b → b < ws.length := fun b e => by
          subst e
          have := hb.1
          omega
        refine s_ifAsg (v := oV (if j ∉ ord ∧ (o = none ∨ ∃ b, o = some b ∧ wAt ws b < wAt ws j) then some j else o)) (b := (!decide (j ∈ ord)) && (decide (o = none) || decide (wAt ws (o.getD 0) < wAt ws j)))
          (et_and (et_test (ev_op (ev_var rfl) (ev_var rfl) (rv_notIn (.inl (.inl hl3))))) fun _ => et_or (et_is (et_test (ev_op (ev_var rfl) ev_c (rv_val (z := .bl (decide (o = none))) fun H1 _ Q q => ⟨rfl, ?_⟩))) rfl) fun hz => et_test (ev_op (ev_op (ev_var rfl) (ev_var rfl) (rv_ixL hs3 (atI_at rfl hj'))) (ev_op (ev_var rfl) (ev_var rfl) (rv_val fun H1 e _ q => ?_)) rv_I0)) (fun hb' => ?_) (fun hb' => ?_) fun H4 e4 => ?_
        · cases o <;> exact q
        · cases o with
          | none => cases hz
          | some b =>
            exact ⟨l, _, _, _, rfl, rfl, ex_l e hs3, atI_at rfl (ho b rfl), q⟩
        · rw [if_pos ?_]
          · exact ev_var rfl
          · simp only [Bool.and_eq_true, Bool.or_eq_true, Bool.not_eq_true', decide_eq_false_iff_not, decide_eq_true_eq] at hb'
            refine ⟨hb'.1, ?_⟩
            cases o with
            | none => exact .inl rfl
            | some b =>
              rcases hb'.2 with z | z
              · cases z
              · exact .inr ⟨b, rfl, z⟩
        · rw [if_neg ?_]
          · rfl
          · rintro ⟨h1, h2⟩
            rw [decide_eq_false h1] at hb'
            rcases h2 with rfl | ⟨b, rfl, h2⟩
            · cases hb'
            · rw [show (some b).getD 0 = b from rfl, decide_eq_true h2] at hb'
              cases hb'
        · refine ⟨_, _, rfl, eh3.trans e4, e4 p _ hl3, ?_⟩
          by_cases hm : j ∈ ord
          · rw [if_neg (fun z => z.1 hm)]
            exact hb.skip hm
          · cases o with
            | none =>
              rw [if_pos ⟨hm, .inl rfl⟩]
              exact hb.first hm
            | some b =>
              by_cases hw : wAt ws b < wAt ws j
              · rw [if_pos ⟨hm, .inr ⟨b, rfl, hw⟩⟩]
                exact hb.take hm hw
              · rw [if_neg (fun z => by
                  rcases z.2 with z | ⟨b', e, z⟩
                  · cases z
                  · cases e; exact hw z)]
                exact hb.keep hw
      · rintro σ H3 ⟨o, c, rfl, eh3, hl3, hb⟩
        have hz : ((ws.map V.int).length : Int).toNat = ws.length := by omega
        rw [hz] at hb
        obtain ⟨b, rfl⟩ := pt.some (by omega) hb
        refine s_app hl3 (ev_var rfl) (ev_var rfl) (by rw [nats_len]; omega) fun H4 e4 => ?_
        refine ⟨ord ++ [b], _, _, _, rfl, Ex.mut (eh3.trans e4) hp, ?_, pt.add hb, by simp⟩
        rw [upd_same, nats_app]
        rfl
    · rintro σ H' ⟨ord, a, b, c, rfl, eh, hl, pt, hlen2⟩
      have hz : ((ws.map V.int).length : Int).toNat = ws.length := by omega
      rw [hz] at hlen2
      rw [pt.whole hlen2] at hl
      exact s_ret (ev_var rfl) fun H2 e2 => q p H2 hp (eh.trans e2) (e2 p _ hl)
end
end K06
set_option linter.all false
namespace M03
def llimAt (many : Nat) : Nat → Nat
  | 0 => 1
  | i + 1 => if 2 ^ llimAt many i < many then llimAt many i + 1 else llimAt many i
theorem llimAt_le (many : Nat) : ∀ i, 1 ≤ llimAt many i ∧ llimAt many i ≤ i + 1
  | 0 => ⟨Nat.le_refl _, Nat.le_refl _⟩
  | i + 1 => by
    have h := llimAt_le many i
    unfold llimAt
    split <;> omega
def llim (many : Nat) : Nat := llimAt many 6
def sumsL (ws : List Int) : List Int := restL (ranked ws)
theorem restL_get0 (vs : List Int) : (restL vs).getD 0 0 = (restL vs).headD 0 := by
  cases vs <;> rfl
theorem sumsL_len (ws : List Int) : (sumsL ws).length = ws.length + 1 := by rw [sumsL, restL_len, ranked_len]
theorem drop_step {vs : List Int} {i : Nat} (h : i < vs.length) : restL (vs.drop i) = (vs.getD i 0 + (restL (vs.drop (i + 1))).headD 0) :: restL (vs.drop (i + 1)) := by
  rw [List.drop_eq_getElem_cons h]
  show (vs[i] + _) :: _ = _
  rw [List.getD_eq_getElem?_getD, List.getElem?_eq_getElem h]
  rfl
theorem ranked_at {ws : List Int} {i : Nat} (h : i < ws.length) : (ranked ws).getD i 0 = wAt ws ((rankL ws).getD i 0) := by
  have h1 : i < (rankL ws).length := by rw [rank_len]; exact h
  unfold ranked
  rw [List.getD_eq_getElem?_getD, List.getElem?_map, List.getD_eq_getElem?_getD, List.getElem?_eq_getElem h1]
  rfl
/-- the sums grow from the least weight on -/
theorem asc_step (vs : List Int) (i : Nat) (h : i < vs.length) : (restL (vs.reverse.drop (vs.length - (i + 1)))).reverse = (restL (vs.reverse.drop (vs.length - i))).reverse ++ [((restL (vs.reverse.drop (vs.length - i))).reverse).getLastD 0 + vs.getD i 0] := by
  have h1 : vs.length - (i + 1) < vs.reverse.length := by rw [List.length_reverse]; omega
  have e1 := drop_step h1
  have e2 : vs.length - (i + 1) + 1 = vs.length - i := by omega
  rw [e2] at e1
  rw [e1, List.reverse_cons]
  congr 1
  have e3 : vs.reverse.getD (vs.length - (i + 1)) 0 = vs.getD i 0 := by
    rw [List.getD_eq_getElem?_getD, List.getD_eq_getElem?_getD, List.getElem?_reverse (by omega)]
    congr 2
    omega
  rw [e3]
  generalize restL (vs.reverse.drop (vs.length - i)) = L
  have e4 : L.reverse.getLastD 0 = L.headD 0 := by
    cases L <;> simp
  rw [e4, Int.add_comm]
/-- what the program counts at a stage -/
def wc (limit depth free left : Int) : List Int :=
  if depth = 0 then [0] else if limit ≤ depth then (if left ≤ free then [left] else []) else (List.range ((if left < free then left else free) + 1).toNat).map fun (i : Nat) => (i : Int)
def chOf (sums : List Int) (depth m free : Int) (a : Int) : Option (Int × Int × Nxt) :=
  let left : Int := (sums.length : Int) - 1 - m
  if a = left then some (a, 0, none)
  else if a ≠ free then some (a, sums.getD (m + a).toNat 0, some (depth + 1, m + a, if left - a < 2 * (free - a) then left - a else 2 * (free - a)))
  else none
def chP (sums : List Int) (limit depth m free : Int) : List (Int × Int × Nxt) := (wc limit depth free ((sums.length : Int) - 1 - m)).filterMap (chOf sums depth m free)
/-- a stage -/
structure StOk (sums : List Int) (limit depth m k : Int) : Prop where
  l : 1 ≤ limit
  d : 0 ≤ depth ∧ depth ≤ limit
  m : 0 ≤ m ∧ m < (sums.length : Int) - 1
  k : 1 ≤ k
theorem filterMap_single {α β : Type} (f : α → Option β) (l : List α) (a : α) (hm : a ∈ l) (hn : l.Nodup) (h : ∀ b ∈ l, b ≠ a → f b = none) : l.filterMap f = (f a).toList := by
  induction l with
  | nil => simp at hm
  | cons x r ih =>
    have hn' := List.nodup_cons.mp hn
    by_cases e : x = a
    · subst e
      have h2 : r.filterMap f = [] := by
        rw [List.filterMap_eq_nil_iff]
        intro b hb
        exact h b (List.mem_cons_of_mem _ hb) fun z => hn'.1 (by rw [← z]; exact hb)
      rw [List.filterMap_cons, h2]
      cases f x <;> rfl
    · have hm' : a ∈ r := by
        rcases List.mem_cons.mp hm with z | z
        · exact absurd z.symm e
        · exact z
      rw [List.filterMap_cons, h x List.mem_cons_self e, ih hm' hn'.2 fun b hb => h b (List.mem_cons_of_mem _ hb)]
theorem fm_congr {α β : Type} {f g : α → Option β} : ∀ {l : List α}, (∀ a ∈ l, f a = g a) → l.filterMap f = l.filterMap g
  | [], _ => rfl
  | x :: r, h => by
    rw [List.filterMap_cons, List.filterMap_cons, h x List.mem_cons_self, fm_congr fun a ha => h a (List.mem_cons_of_mem _ ha)]
theorem ch_same {sums : List Int} {limit depth m k : Int} (h : StOk sums limit depth m k) : chP sums limit depth m k = chL sums limit depth m k := by
  obtain ⟨hl, hd, hm, hk⟩ := h
  unfold chP chL
  generalize hn : (sums.length : Int) - 1 = n at *
  have hN : chN sums m k = ((if n - m < k then n - m else k) + 1).toNat := by unfold chN; rw [hn]
  have one : ∀ a : Nat, chOne sums limit depth m k a = if (if depth = limit then decide ((a : Int) = n - m) else (decide (0 < depth) || decide ((a : Int) = 0))) && decide (m + a = n) then some ((a : Int), 0, none)
      else if (if depth = limit then decide ((a : Int) = n - m) else (decide (0 < depth) || decide ((a : Int) = 0))) && decide ((a : Int) < k) then some ((a : Int), sums.getD (m + a).toNat 0, some (depth + 1, m + a, if n - m - a < 2 * (k - a) then n - m - a else 2 * (k - a))) else none := fun a => by
    unfold chOne; rw [hn]
  have two : ∀ a : Int, chOf sums depth m k a = if a = n - m then some (a, 0, none) else if a ≠ k then some (a, sums.getD (m + a).toNat 0, some (depth + 1, m + a, if n - m - a < 2 * (k - a) then n - m - a else 2 * (k - a))) else none := fun a => by
    unfold chOf; rw [hn]
  unfold wc
  by_cases h0 : depth = 0
  · rw [if_pos h0]
    have hdl : depth ≠ limit := by omega
    rw [filterMap_single (chOne sums limit depth m k) (List.range (chN sums m k)) 0 (List.mem_range.mpr (by rw [hN]; split <;> omega)) List.nodup_range fun b hb hb0 => ?_]
    · have e3 : chOf sums depth m k 0 = chOne sums limit depth m k 0 := by
        rw [one, two]
        rw [if_neg (by omega : ¬ ((0 : Int) = n - m)), if_pos (by omega : (0 : Int) ≠ k), if_neg hdl]
        have a1 : (((decide (0 < depth) || decide (((0 : Nat) : Int) = 0)) && decide (m + ((0 : Nat) : Int) = n)) = true) = False := by
          simp only [Bool.and_eq_true, decide_eq_true_eq, eq_iff_iff, iff_false]
          omega
        have a2 : (((decide (0 < depth) || decide (((0 : Nat) : Int) = 0)) && decide (((0 : Nat) : Int) < k)) = true) = True := by
          simp only [Bool.and_eq_true, Bool.or_eq_true, decide_eq_true_eq, eq_iff_iff, iff_true]
          omega
        simp only [a1, a2, if_false, if_true]
        rfl
      rw [List.filterMap_cons, e3]
      cases chOne sums limit depth m k 0 <;> rfl
    · rw [one]
      have e2 : ((b : Int) = 0) = False := by
        rw [eq_iff_iff, iff_false]; omega
      have e3 : (0 < depth) = False := by
        rw [eq_iff_iff, iff_false]; omega
      simp only [hdl, if_false, e2, e3, decide_false, Bool.or_false, Bool.false_and, Bool.false_eq_true]
  · rw [if_neg h0]
    by_cases h1 : limit ≤ depth
    · have hdl : depth = limit := by omega
      subst hdl
      rw [if_pos h1]
      by_cases h2 : n - m ≤ k
      · rw [if_pos h2, filterMap_single (chOne sums depth depth m k) (List.range (chN sums m k)) (n - m).toNat (List.mem_range.mpr (by rw [hN]; split <;> omega)) List.nodup_range fun b hb hb0 => ?_]
        · have e1 : (((n - m).toNat : Nat) : Int) = n - m := by omega
          rw [one, e1]
          have e2 : m + (n - m) = n := by omega
          simp [e2, two]
        · rw [one]
          have e1 : ¬ ((b : Int) = n - m) := by omega
          simp [e1]
      · rw [if_neg h2, List.filterMap_nil]
        symm
        rw [List.filterMap_eq_nil_iff]
        intro b hb
        have hb' := List.mem_range.mp hb
        rw [hN] at hb'
        rw [if_neg (by omega)] at hb'
        rw [one]
        have e1 : ¬ ((b : Int) = n - m) := by omega
        simp [e1]
    · rw [if_neg h1, hN, List.filterMap_map]
      have hdl : depth ≠ limit := by omega
      have hd0 : 0 < depth := by omega
      refine fm_congr fun b hb => ?_
      have hb' := List.mem_range.mp hb
      have hb2 : (b : Int) ≤ k := by
        by_cases q : n - m < k
        · rw [if_pos q] at hb'; omega
        · rw [if_neg q] at hb'; omega
      have hb3 : (b : Int) ≤ n - m := by
        by_cases q : n - m < k
        · rw [if_pos q] at hb'; omega
        · rw [if_neg q] at hb'; omega
      show chOf sums depth m k (b : Int) = _
      rw [one, two]
      simp only [hdl, if_false, hd0, decide_true, Bool.true_or, Bool.true_and, decide_eq_true_eq]
      by_cases q1 : (b : Int) = n - m
      · rw [if_pos q1, if_pos (by omega)]
      · rw [if_neg q1]
        have e5 : ¬ (m + (b : Int) = n) := by omega
        rw [if_neg e5]
        by_cases q2 : (b : Int) = k
        · have e6 : ¬ ((b : Int) < k) := by omega
          simp [q2]
        · have e6 : (b : Int) < k := by omega
          simp [q2, e6]
end M03
set_option Elab.async false
set_option linter.all false
set_option maxRecDepth 100000
set_option maxHeartbeats 4000000
namespace K06
open PySem PySem.Spec PyProof.Rows L2 GX KC Evl M03
section
variable {P : Program} {w : World} {K : PySem.W.Frag} {mg : Str → Option Value} {base : Heap}
/-! the least limit -/
def spLim : Sp := fun vs H Q _ => ∃ n : Nat, vs = [.int (n : Int)] ∧ ∀ H2, Ex H H2 → Q (.int (llim n : Nat)) H2
theorem llimAt_lt (n : Nat) : ∀ i, i ≤ 6 → (llimAt n i : Nat) ≤ 7 := fun i hi => by
  have := (llimAt_le n i).2
  omega
theorem ok_law_least_limit {f : Addr} {fd : FuncData} {k : Nat} (F : Fun K "_law_least_limit" "_law_least_limit" s_law_least_limit f fd) (B : Bs mg) : FnOk P w K mg base CX0 (k + 1) f fd ["many"] spLim := by
  refine F.ok sc_law_least_limit (fun vs H Q E h => ?_) (fun cdv A outer s H vs Q E hr h => ?_)
  · obtain ⟨n, rfl, _⟩ := h
    rfl
  · obtain ⟨n, rfl, q⟩ := h
    refine ⟨_, (pss_cons (ps_set (i := 1) sc_law_least_limit.nd rfl (Or.inl rfl) pe_int)
      (pss_cons (ps_for PassesOwn.never rfl (pi_range1 (by rfl) B.range (pa_cons pe_int pa_nil)) (pg_name (i := 2) sc_law_least_limit.nd rfl (Or.inl rfl)) (pss_one (ps_if (pt_cmpR op_lt (pe_op op_shl pe_int (pv 1)) (pv 0) (nomark _)) (pss_one (ps_set (i := 1) sc_law_least_limit.nd rfl (Or.inl rfl) (pe_op op_add (pv 1) pe_int))) pss_nil)))
      (pss_one (ps_ret (pv 1))))), ?_⟩
    refine q_asg ev_c fun H1 e1 => ?_
    refine q_forR1 (n := 6) (ea1 ev_c) ⟨by decide, by decide⟩
      (fun i σ H' => ∃ a, σ = [some (.int (n : Int)), some (.int (llimAt n i : Nat)), a] ∧ Ex H H')
      (fun H2 e2 => ⟨none, rfl, e1.trans e2⟩) ?_ ?_
    · rintro i σ H' hi ⟨a, rfl, eh⟩
      have hb := llimAt_le n i
      refine s_ifAsg (v := .int (llimAt n (i + 1) : Nat)) (b := decide ((2 : Int) ^ (llimAt n i) < (n : Int))) (et_is (et_test (ev_op (ev_op ev_c (ev_var rfl) (rv_shl ⟨by omega, by omega, by decide⟩)) (ev_var rfl) rv_I0)) ?_) (fun hb' => ?_) (fun hb' => ?_) fun H4 e4 => ?_
      · rw [Int.one_mul, Int.toNat_natCast]
      · have h2 := of_decide_eq_true hb'
        have h3 : 2 ^ llimAt n i < n := by exact_mod_cast h2
        have e : llimAt n (i + 1) = llimAt n i + 1 := by
          rw [llimAt, if_pos h3]
        rw [e, Int.natCast_add]
        exact ev_add (ev_var rfl) ev_c
      · have h2 := of_decide_eq_false hb'
        have h3 : ¬ 2 ^ llimAt n i < n := by intro h; apply h2; exact_mod_cast h
        have e : llimAt n (i + 1) = llimAt n i := by
          rw [llimAt, if_neg h3]
        rw [e]
        rfl
      · exact ⟨_, rfl, eh.trans e4⟩
    · rintro σ H' ⟨a, rfl, eh⟩
      exact s_ret (ev_var rfl) fun H2 e2 => q H2 (eh.trans e2)
/-! the sums -/
def spSums (K : PySem.W.Frag) : Sp := fun vs H Q _ => ∃ (l : Addr) (ws : List Int), vs = [.ref l] ∧ SqL K H l (ws.map V.int) ∧ ws.length ≤ 64 ∧ RetL ((sumsL ws).map V.int) H Q
theorem sp_ranks {H : Hp} {l : Addr} {ws : List Int} (hs : SqL K H l (ws.map V.int)) (hn : ws.length ≤ 64) : SpL (spRanks K) ([.ref l] ++ []) H (nats (rankL ws)) := fun H1 e1 Q q E =>
  ⟨l, ws, rfl, ex_l e1 hs, hn, fun p H2 hp e2 h2 => q p H2 hp e2 h2⟩
theorem nats_at {a : List Nat} {i : Nat} {z : Int} (e : z = (i : Int)) (h : i < a.length) : atI (nats a) z = some (.int (a.getD i 0 : Nat)) := by
  refine at_of e ?_
  unfold nats
  rw [List.getElem?_map, List.getElem?_eq_getElem h, List.getD_eq_getElem?_getD, List.getElem?_eq_getElem h]
  rfl
theorem sums_cons {L : List Int} {i : Nat} {ws : List Int} (h : i < ws.length) : restL ((ranked ws).drop i) = ((restL ((ranked ws).drop (i + 1))).getD 0 0 + wAt ws ((rankL ws).getD i 0)) :: restL ((ranked ws).drop (i + 1)) := by
  rw [drop_step (by rw [ranked_len]; exact h), ranked_at h, restL_get0, Int.add_comm]
theorem ok_law_sums {f : Addr} {fd : FuncData} {k : Nat} (F : Fun K "_law_sums" "_law_sums" s_law_sums f fd) (B : Bs mg) (C_law_ranks : Cal P w K mg base "_law_ranks" 1 ["weights"] (spRanks K)) : FnOk P w K mg base CX0 (k + 2) f fd ["weights"] (spSums K) := by
  refine F.ok sc_law_sums (fun vs H Q E h => ?_) (fun cdv A outer s H vs Q E hr h => ?_)
  · obtain ⟨l, ws, rfl, _⟩ := h
    rfl
  · obtain ⟨l, ws, rfl, hs, hn, q⟩ := h
    refine ⟨_, (pss_cons (ps_set (i := 1) sc_law_sums.nd rfl (Or.inl rfl) (pe_callC C_law_ranks (hr.mono (by omega)) (by rfl) (pa_cons (pv 0) pa_nil)))
      (pss_cons (ps_set (i := 2) sc_law_sums.nd rfl (Or.inl rfl) (pe_lst (pa_cons pe_int pa_nil)))
      (pss_cons (ps_for PassesOwn.never rfl (pi_range1 (by rfl) B.range (pa_cons (pe_callB call_len_seq (by rfl) B.len PySem.boot_len (pa_cons (pv 1) pa_nil)) pa_nil)) (pg_name (i := 3) sc_law_sums.nd rfl (Or.inl rfl)) (pss_one (ps_set (i := 2) sc_law_sums.nd rfl (Or.inl rfl) (pe_op op_cat (pe_lst (pa_cons (pe_op op_add (pe_ix ix_list (pv 2) pe_int (fun _ _ => rfl)) (pe_ix ix_list (pv 0) (pe_ix ix_list (pv 1) (pe_op op_sub (pe_op op_sub (pe_callB call_len_seq (by rfl) B.len PySem.boot_len (pa_cons (pv 1) pa_nil)) pe_int) (pv 3)) (fun _ _ => rfl)) (fun _ _ => rfl))) pa_nil)) (pv 2)))))
      (pss_one (ps_ret (pv 2)))))), ?_⟩
    refine q_asgL (el_call (ea1 (ev_var rfl)) (sp_ranks hs hn)) fun o H1 ho e1 h1 => ?_
    refine q_asgL (el_lst (ea1 ev_c) (by decide)) fun p H2 hp e2 h2 => ?_
    have hol : (nats (rankL ws)).length = ws.length := by rw [nats_len, rank_len]
    refine q_forR1 (n := ((nats (rankL ws)).length : Int)) (ea1 (ev_len (ev_var rfl) (ex_l e2 (sq_of h1)))) ⟨by omega, by omega⟩
      (fun i σ H' => ∃ (p : Addr) (a : Option V), σ = [some (.ref l), some (.ref o), some (.ref p), a] ∧ Ex H1 H' ∧ H p = none ∧ H' p = some (.lst ((restL ((ranked ws).drop (ws.length - i))).map V.int)))
      (fun H3 e3 => ⟨p, none, rfl, e2.trans e3, fresh_back e1 hp, ?_⟩) ?_ ?_
    · rw [e3 p _ h2, Nat.sub_zero, List.drop_of_length_le (by rw [ranked_len]; exact Nat.le_refl _)]
      rfl
    · rintro i σ H' hi ⟨p, a, rfl, eh, hp0, hl⟩
      have hi' : i < ws.length := by omega
      have hj : ws.length - (i + 1) < ws.length := by omega
      have hj1 : ws.length - (i + 1) + 1 = ws.length - i := by omega
      have hso : SqL K H' o (nats (rankL ws)) := ex_l eh (sq_of h1)
      have hsw : SqL K H' l (ws.map V.int) := ex_l (e1.trans eh) hs
      have hpl : ((restL ((ranked ws).drop (ws.length - i))).map V.int).length ≤ 65 := by
        rw [List.length_map, restL_len, List.length_drop, ranked_len]; omega
      have hrk : (rankL ws).getD (ws.length - (i + 1)) 0 < ws.length := by
        have h1 : ws.length - (i + 1) < (rankL ws).length := by rw [rank_len]; exact hj
        rw [List.getD_eq_getElem?_getD, List.getElem?_eq_getElem h1]
        exact rank_lt (List.getElem_mem h1)
      have hR0 : 0 < (restL ((ranked ws).drop (ws.length - i))).length := by rw [restL_len]; omega
      refine s_asgL (el_cat (xs := [V.int ((restL ((ranked ws).drop (ws.length - i))).getD 0 0 + wAt ws ((rankL ws).getD (ws.length - (i + 1)) 0))])
        (el_lst (ea1 (ev_add (ev_op (ev_var rfl) ev_c (rv_ixL (sq_of hl) (atI_at rfl hR0)))
          (ev_op (ev_var rfl) (ev_op (ev_var rfl) (ev_sub (ev_sub (ev_len (ev_var rfl) hso) ev_c) (ev_var rfl)) (rv_ixL hso (nats_at (i := ws.length - (i + 1)) (by omega) (by rw [rank_len]; exact hj)))) (rv_ixL hsw (atI_at rfl hrk))))) (by show 1 ≤ 100000; decide))
        (ev_var rfl) hl (by simp only [List.length_cons, List.length_nil]; omega)) fun p2 H3 hp2 e3 h3 => ?_
      refine ⟨p2, _, rfl, eh.trans e3, fresh_back (e1.trans eh) hp2, ?_⟩
      rw [h3, sums_cons (L := []) hj, hj1]
      rfl
    · rintro σ H' ⟨p, a, rfl, eh, hp0, hl⟩
      have hz : ((nats (rankL ws)).length : Int).toNat = ws.length := by omega
      rw [hz, Nat.sub_self, List.drop_zero] at hl
      exact s_ret (ev_var rfl) fun H2 e2 => q p H2 hp0 ((e1.trans eh).trans e2) (e2 p _ hl)
/-! a stage's choices -/
def nxD : Nxt → PyData
  | none => .none
  | some (d, m, k) => .tuple [.int d, .int m, .int k]
def chD : Int × Int × Nxt → PyData
  | (a, c, n) => .tuple [.int a, .int c, nxD n]
theorem chD_noList (x : Int × Int × Nxt) : noList (chD x) = true := by
  obtain ⟨a, c, n⟩ := x
  cases n <;> rfl
def chsD (xs : List (Int × Int × Nxt)) : List PyData := xs.map chD
structure StIn (K : PySem.W.Frag) (sums : List Int) (l t : Addr) (limit depth m k : Int) (H : Hp) : Prop where
  sq : SqL K H l (sums.map V.int)
  st : SqT K H t [.int depth, .int m, .int k]
  ok : StOk sums limit depth m k
  len : sums.length ≤ 1000
  kk : k ≤ 1000
def spCh (K : PySem.W.Frag) (g : List Int → Int → Int → Int → Int → List (Int × Int × Nxt)) : Sp := fun vs H Q _ => ∃ (l t : Addr) (sums : List Int) (limit depth m k : Int), vs = [.ref l, .int limit, .ref t] ∧ StIn K sums l t limit depth m k H ∧ RetLD K (chsD (g sums limit depth m k)) H Q
theorem q_unp {σ : L2.St} {H : Hp} {te : TE} {D : Ends} {tz : TS} {n : Nat} {t : TGs} {a : Addr} {xs : List V} (h : Ev te σ H (.ref a)) (hx : SqT K H a xs) (hl : xs.length = n) (k : ∀ H1, Ex H H1 → t xs σ H1 (tz D)) : tSeq (tAsg te (gTup K n t)) tz D σ H :=
  h H (Ex.refl H) _ fun H1 e1 => ⟨a, xs, rfl, ex_t e1 hx, hl, k H1 e1⟩
theorem dp_app {H : Hp} {p : Addr} {vs : List V} {ds : List PyData} {v : V} {d : PyData} (hl : H p = some (.lst vs)) (hd : DpAll K H vs ds) (hv : Dp K H v d) (hn : noListAll ds = true) (hn2 : noList d = true) : DpAll K (upd H p (.lst (vs ++ [v]))) (vs ++ [v]) (ds ++ [d]) :=
  DpAll.app (DpAll.put hl ds vs hn hd) (Dp.put hl d v hn2 hv)
theorem fm_succ {α : Type} (f : Nat → Option α) (i : Nat) : (List.range (i + 1)).filterMap f = (List.range i).filterMap f ++ (f i).toList := by
  rw [List.range_succ, List.filterMap_append, List.filterMap_cons, List.filterMap_nil]
  cases f i <;> rfl
theorem chsD_noList (xs : List (Int × Int × Nxt)) : noListAll (chsD xs) = true := noListAll_map chD_noList xs
theorem fm_len {α β : Type} (f : α → Option β) (l : List α) : (l.filterMap f).length ≤ l.length := List.length_filterMap_le f l
theorem ok_law_choices_by {f : Addr} {fd : FuncData} {k : Nat} (F : Fun K "_law_choices_by" "_law_choices_by" s_law_choices_by f fd) (B : Bs mg) : FnOk P w K mg base CX0 (k + 1) f fd ["sums", "limit", "stage"] (spCh K chL) := by
  refine F.ok sc_law_choices_by (fun vs H Q E h => ?_) (fun cdv A outer s H vs Q E hr h => ?_)
  · obtain ⟨l, t, sums, limit, depth, m, kk, rfl, _⟩ := h
    rfl
  · obtain ⟨l, t, sums, limit, depth, m, kk, rfl, hs, q⟩ := h
    refine ⟨_, (pss_cons (ps_asg (pv 2) (pg_tup rfl (pgs_cons (pg_name (i := 3) sc_law_choices_by.nd rfl (Or.inl rfl)) (pgs_cons (pg_name (i := 4) sc_law_choices_by.nd rfl (Or.inl rfl)) (pgs_cons (pg_name (i := 5) sc_law_choices_by.nd rfl (Or.inl rfl)) pgs_nil)))))
      (pss_cons (ps_set (i := 6) sc_law_choices_by.nd rfl (Or.inl rfl) (pe_op op_sub (pe_callB call_len_seq (by rfl) B.len PySem.boot_len (pa_cons (pv 0) pa_nil)) pe_int))
      (pss_cons (ps_set (i := 7) sc_law_choices_by.nd rfl (Or.inl rfl) (pe_lst pa_nil))
      (pss_cons (ps_for PassesOwn.never rfl (pi_range1 (by rfl) B.range (pa_cons (pe_op op_add (pe_callB (call_min2 rfl) (by rfl) B.min (by decide +kernel) (pa_cons (pv 5) (pa_cons (pe_op op_sub (pv 6) (pv 4)) pa_nil))) pe_int) pa_nil)) (pg_name (i := 8) sc_law_choices_by.nd rfl (Or.inl rfl)) (pss_cons (ps_set (i := 9) sc_law_choices_by.nd rfl (Or.inl rfl) (pe_or (pe_cmpR op_gt (pv 3) pe_int (nomark _)) (pe_one (pe_cmpR op_eq (pv 8) pe_int (nomark _)))))
      (pss_cons (ps_if (pt_cmpR op_eq (pv 3) (pv 1) (nomark _)) (pss_one (ps_set (i := 9) sc_law_choices_by.nd rfl (Or.inl rfl) (pe_cmpR op_eq (pv 8) (pe_op op_sub (pv 6) (pv 4)) (nomark _)))) pss_nil)
      (pss_one (ps_if (PW.pt (pw_and (pt_val (pv 9)) (pw_and1 (pt_cmpR op_eq (pe_op op_add (pv 4) (pv 8)) (pv 6) (nomark _))))) (pss_one (ps_expr (pe_bm PySem.F.plainAttrs_list PySem.F.slot_list_append PySem.F.type_list_append mt_append (pv 7) (pa_cons (pe_tup (pa_cons (pv 8) (pa_cons pe_int (pa_cons pe_non pa_nil)))) pa_nil)))) (pss_one (ps_if (PW.pt (pw_and (pt_val (pv 9)) (pw_and1 (pt_cmpR op_lt (pv 8) (pv 5) (nomark _))))) (pss_one (ps_expr (pe_bm PySem.F.plainAttrs_list PySem.F.slot_list_append PySem.F.type_list_append mt_append (pv 7) (pa_cons (pe_tup (pa_cons (pv 8) (pa_cons (pe_ix ix_list (pv 0) (pe_op op_add (pv 4) (pv 8)) (fun _ _ => rfl)) (pa_cons (pe_tup (pa_cons (pe_op op_add (pv 3) pe_int) (pa_cons (pe_op op_add (pv 4) (pv 8)) (pa_cons (pe_callB (call_min2 rfl) (by rfl) B.min (by decide +kernel) (pa_cons (pe_op op_mul pe_int (pe_op op_sub (pv 5) (pv 8))) (pa_cons (pe_op op_sub (pe_op op_sub (pv 6) (pv 4)) (pv 8)) pa_nil))) pa_nil)))) pa_nil)))) pa_nil)))) pss_nil)))))))
      (pss_one (ps_ret (pv 7))))))), ?_⟩
    obtain ⟨hsq, hst, ⟨o1, o2, o3, o4⟩, hln, hkk⟩ := hs
    refine q_unp (ev_var rfl) hst rfl fun H1 e1 => ⟨_, _, rfl, _, _, rfl, _, _, rfl, rfl, ?_⟩
    have hlen : ((sums.map V.int).length : Int) = (sums.length : Int) := by rw [List.length_map]
    generalize hn : (sums.length : Int) - 1 = n at *
    refine q_asg (v := .int n) (ev_is (ev_sub (ev_len (ev_var rfl) (ex_l e1 hsq)) ev_c) (by rw [hlen, hn])) fun H2 e2 => ?_
    refine q_asgL (el_lst ea_nil (by decide)) fun p H3 hp e3 h3 => ?_
    have e13 := (e1.trans e2).trans e3
    have hp0 : H p = none := fresh_back (e1.trans e2) hp
    have hcn : chN sums m kk = ((if n - m < kk then n - m else kk) + 1).toNat := by unfold chN; rw [hn]
    refine q_forR1 (n := (if n - m < kk then n - m else kk) + 1) (ea1 (ev_add (ev_min (ev_var rfl) (ev_sub (ev_var rfl) (ev_var rfl))) ev_c)) ⟨by split <;> omega, by split <;> omega⟩
      (fun i σ H' => ∃ (vs : List V) (a c : Option V), σ = [some (.ref l), some (.int limit), some (.ref t), some (.int depth), some (.int m), some (.int kk), some (.int n), some (.ref p), a, c] ∧ Ex H H' ∧ H' p = some (.lst vs) ∧ DpAll K H' vs (chsD ((List.range i).filterMap (chOne sums limit depth m kk))))
      (fun H4 e4 => ⟨[], none, none, rfl, e13.trans e4, e4 p _ h3, .nil⟩) ?_ ?_
    · rintro i σ H' hi ⟨vs, a, c, rfl, eh, hl, hd⟩
      have hvl : vs.length < 100000 := by
        rw [DpAll.len hd]
        have := fm_len (chOne sums limit depth m kk) (List.range i)
        rw [List.length_range] at this
        unfold chsD
        rw [List.length_map]
        split at hi <;> omega
      have hsq' := ex_l eh hsq
      have hi' : (i : Int) ≤ n - m := by split at hi <;> omega
      refine q_asg (v := .bl (decide (0 < depth) || decide ((i : Int) = 0))) (ev_orV (ev_op (ev_var rfl) ev_c rv_I0) fun _ => ev_eq (ev_var rfl) ev_c) fun H4 e4 => ?_
      generalize hok : (if depth = limit then decide ((i : Int) = n - m) else (decide (0 < depth) || decide ((i : Int) = 0))) = ok
      refine q_ifAsg (v := .bl ok) (et_test (ev_eq (ev_var rfl) (ev_var rfl))) (fun hb => ?_) (fun hb => ?_) fun H5 e5 => ?_
      · rw [if_pos (of_decide_eq_true hb)] at hok
        rw [← hok]
        exact ev_eq (ev_var rfl) (ev_sub (ev_var rfl) (ev_var rfl))
      · rw [if_neg (of_decide_eq_false hb)] at hok
        rw [hok]
        rfl
      have e45 := e4.trans e5
      have hone : chOne sums limit depth m kk i = if ok && decide (m + i = n) then some ((i : Int), 0, none) else if ok && decide ((i : Int) < kk) then some ((i : Int), sums.getD (m + i).toNat 0, some (depth + 1, m + i, if n - m - i < 2 * (kk - i) then n - m - i else 2 * (kk - i))) else none := by
        unfold chOne
        rw [hn]
        subst hok
        rfl
      rw [fm_succ]
      refine s_if (et_and (et_B (ev_var rfl)) fun _ => et_test (ev_eq (ev_add (ev_var rfl) (ev_var rfl)) (ev_var rfl))) (fun hb H6 e6 => ?_) (fun hb H6 e6 => ?_)
      · rw [hone, if_pos hb]
        have e46 := e45.trans e6
        refine s_appD (e46 p _ hl) (ev_var rfl) (ed_tup (eda_cons (ed_int (ev_var rfl)) (eda_cons (ed_int ev_c) (eda_cons (ed_non ev_c) eda_nil))) (by show 3 ≤ 100000; decide)) hvl fun v H7 e7 hv => ?_
        have e47 := e46.trans e7
        refine ⟨vs ++ [v], _, _, rfl, Ex.mut (eh.trans e47) hp0, upd_same, ?_⟩
        unfold chsD
        rw [List.map_append]
        exact dp_app (e47 p _ hl) (DpAll.ext e47 _ _ hd) hv (chsD_noList _) rfl
      · rw [hone, if_neg (by rw [hb]; exact Bool.false_ne_true)]
        refine s_if (et_and (et_B (ev_var rfl)) fun _ => et_test (ev_lt (ev_var rfl) (ev_var rfl))) (fun hb2 H7 e7 => ?_) (fun hb2 H7 e7 => ?_)
        · rw [if_pos hb2]
          have e47 := (e45.trans e6).trans e7
          have hix : (m + (i : Int)).toNat < sums.length := by omega
          refine s_appD (e47 p _ hl) (ev_var rfl) (ed_tup (eda_cons (ed_int (ev_var rfl)) (eda_cons (ed_int (ev_op (ev_var rfl) (ev_add (ev_var rfl) (ev_var rfl)) (rv_ixL (ex_l e47 hsq') (atI_at (i := (m + (i : Int)).toNat) (by omega) hix)))) (eda_cons
            (ed_tup (eda_cons (ed_int (ev_add (ev_var rfl) ev_c)) (eda_cons (ed_int (ev_add (ev_var rfl) (ev_var rfl))) (eda_cons (ed_int (ev_min (ev_op ev_c (ev_sub (ev_var rfl) (ev_var rfl)) (rv_mul (by decide))) (ev_sub (ev_sub (ev_var rfl) (ev_var rfl)) (ev_var rfl)))) eda_nil))) (by show 3 ≤ 100000; decide)) eda_nil))) (by show 3 ≤ 100000; decide)) hvl fun v H8 e8 hv => ?_
          have e48 := e47.trans e8
          refine ⟨vs ++ [v], _, _, rfl, Ex.mut (eh.trans e48) hp0, upd_same, ?_⟩
          unfold chsD
          rw [List.map_append]
          exact dp_app (e48 p _ hl) (DpAll.ext e48 _ _ hd) hv (chsD_noList _) rfl
        · rw [if_neg (by rw [hb2]; exact Bool.false_ne_true)]
          have e47 := (e45.trans e6).trans e7
          refine ⟨vs, _, _, rfl, eh.trans e47, e47 p _ hl, ?_⟩
          rw [Option.toList_none, List.append_nil]
          exact DpAll.ext e47 _ _ hd
    · rintro σ H' ⟨vs, a, c, rfl, eh, hl, hd⟩
      rw [← hcn] at hd
      refine s_ret (ev_var rfl) fun H2 e2 => q p vs H2 hp0 (eh.trans e2) (e2 p _ hl) (DpAll.ext e2 _ _ hd)
end
end K06
set_option Elab.async false
set_option linter.all false
set_option maxRecDepth 100000
set_option maxHeartbeats 4000000
namespace K06
open PySem PySem.Spec PyProof.Rows L2 GX KC Evl M03
section
variable {P : Program} {w : World} {K : PySem.W.Frag} {mg : Str → Option Value} {base : Heap}
def spWc : Sp := fun vs H Q _ => ∃ (limit depth free left : Int), vs = [.int limit, .int depth, .int free, .int left] ∧ 0 ≤ left ∧ left ≤ 1000 ∧ 0 ≤ free ∧ RetL ((wc limit depth free left).map V.int) H Q
theorem el_rg1 {σ : L2.St} {H : Hp} {ta : TE} {n : Int} (h : Ev ta σ H (.int n)) (hn : 0 ≤ n ∧ n ≤ 100000) : EvL (tLstRg (tRg1 ta)) σ H (((List.range n.toNat).map fun (i : Nat) => (i : Int)).map V.int) := fun H1 e Q q =>
  h H1 e _ fun H2 e2 => ⟨n, rfl, RgOk.of_le (by omega) (by omega) (by omega) (by omega), fun p hp => by
    refine q p _ (fresh_back e2 hp) (e2.trans (Ex.new hp)) ?_
    rw [upd_same]
    congr 2
    unfold rgV
    rw [List.map_map, Int.sub_zero]
    refine List.map_congr_left fun i _ => ?_
    show V.int (0 + (i : Int)) = V.int (i : Int)
    rw [Int.zero_add]⟩
theorem ok_word_counts {f : Addr} {fd : FuncData} {k : Nat} (F : Fun K "word_counts" "word_counts" s_word_counts f fd) (B : Bs mg) : FnOk P w K mg base CX0 (k + 1) f fd ["limit", "depth", "free", "left"] spWc := by
  refine F.ok sc_word_counts (fun vs H Q E h => ?_) (fun cdv A outer s H vs Q E hr h => ?_)
  · obtain ⟨a, b, c, d, rfl, _⟩ := h
    rfl
  · obtain ⟨limit, depth, free, left, rfl, h1, h2, h3, q⟩ := h
    refine ⟨_, (pss_cons (ps_if (pt_cmpR op_eq (pv 1) pe_int (nomark _)) (pss_one (ps_ret (pe_lst (pa_cons pe_int pa_nil)))) pss_nil)
      (pss_cons (ps_if (pt_cmpR op_ge (pv 1) (pv 0) (nomark _)) (pss_one (ps_ret (pe_ifExp (pt_cmpR op_le (pv 3) (pv 2) (nomark _)) (pe_lst (pa_cons (pv 3) pa_nil)) (pe_lst pa_nil)))) pss_nil)
      (pss_one (ps_ret (pe_listRg rfl (by rfl) B.list (prg_1 (by rfl) B.range (pe_op op_add (pe_callB (call_min2 rfl) (by rfl) B.min (by decide +kernel) (pa_cons (pv 2) (pa_cons (pv 3) pa_nil))) pe_int))))))), ?_⟩
    unfold wc at q
    refine q_when (et_test (ev_eq (ev_var rfl) ev_c)) (fun hb H1 e1 => ?_) (fun hb H1 e1 => ?_)
    · rw [if_pos (of_decide_eq_true hb)] at q
      exact s_retL (el_lst (ea1 ev_c) (by decide)) fun p H2 hp e2 h2 => q p H2 (fresh_back e1 hp) (e1.trans e2) h2
    · rw [if_neg (of_decide_eq_false hb)] at q
      refine q_when (et_test (ev_op (ev_var rfl) (ev_var rfl) rv_I0)) (fun hb H2 e2 => ?_) (fun hb H2 e2 => ?_)
      · rw [if_pos (of_decide_eq_true hb)] at q
        by_cases hl : left ≤ free
        · rw [if_pos hl] at q
          exact s_retL (el_if (b := true) (et_is (et_test (ev_op (ev_var rfl) (ev_var rfl) rv_I0)) (decide_eq_true hl)) (fun _ => el_lst (ea1 (ev_var rfl)) (by show 1 ≤ 100000; decide)) (fun z => by cases z)) fun p H3 hp e3 h3 => q p H3 (fresh_back (e1.trans e2) hp) ((e1.trans e2).trans e3) h3
        · rw [if_neg hl] at q
          exact s_retL (el_if (b := false) (et_is (et_test (ev_op (ev_var rfl) (ev_var rfl) rv_I0)) (decide_eq_false hl)) (fun z => by cases z) (fun _ => el_lst ea_nil (by decide))) fun p H3 hp e3 h3 => q p H3 (fresh_back (e1.trans e2) hp) ((e1.trans e2).trans e3) h3
      · rw [if_neg (of_decide_eq_false hb)] at q
        exact s_retL (el_rg1 (ev_add (ev_min (ev_var rfl) (ev_var rfl)) ev_c) ⟨by split <;> omega, by split <;> omega⟩) fun p H3 hp e3 h3 => q p H3 (fresh_back (e1.trans e2) hp) ((e1.trans e2).trans e3) h3
theorem wc_mem {limit depth free left a : Int} (h0 : 0 ≤ left) (h : a ∈ wc limit depth free left) : 0 ≤ a ∧ a ≤ left := by
  unfold wc at h
  split at h
  · rw [List.mem_singleton] at h; omega
  · split at h
    · split at h
      · rw [List.mem_singleton] at h; omega
      · simp at h
    · obtain ⟨i, hi, rfl⟩ := List.mem_map.mp h
      have := List.mem_range.mp hi
      split at this <;> omega
theorem wc_len {limit depth free left : Int} (h2 : left ≤ 1000) : (wc limit depth free left).length ≤ 1001 := by
  unfold wc
  split
  · decide
  · split
    · split <;> simp
    · rw [List.length_map, List.length_range]
      split <;> omega
theorem fm_take {α β : Type} (f : α → Option β) (l : List α) {i : Nat} {x : α} (h : l[i]? = some x) : (l.take (i + 1)).filterMap f = (l.take i).filterMap f ++ (f x).toList := by
  rw [List.take_succ, h, List.filterMap_append]
  show _ ++ [x].filterMap f = _
  rw [List.filterMap_cons, List.filterMap_nil]
  cases f x <;> rfl
theorem ok_stage_choices {f : Addr} {fd : FuncData} {k : Nat} (F : Fun K "stage_choices" "stage_choices" s_stage_choices f fd) (B : Bs mg) (C_word_counts : Cal P w K mg base "word_counts" 1 ["limit", "depth", "free", "left"] spWc) : FnOk P w K mg base CX0 (k + 2) f fd ["sums", "limit", "stage"] (spCh K chP) := by
  refine F.ok sc_stage_choices (fun vs H Q E h => ?_) (fun cdv A outer s H vs Q E hr h => ?_)
  · obtain ⟨l, t, sums, limit, depth, m, kk, rfl, _⟩ := h
    rfl
  · obtain ⟨l, t, sums, limit, depth, m, kk, rfl, hs, q⟩ := h
    refine ⟨_, (pss_cons (ps_asg (pv 2) (pg_tup rfl (pgs_cons (pg_name (i := 3) sc_stage_choices.nd rfl (Or.inl rfl)) (pgs_cons (pg_name (i := 4) sc_stage_choices.nd rfl (Or.inl rfl)) (pgs_cons (pg_name (i := 5) sc_stage_choices.nd rfl (Or.inl rfl)) pgs_nil)))))
      (pss_cons (ps_set (i := 6) sc_stage_choices.nd rfl (Or.inl rfl) (pe_op op_sub (pe_op op_sub (pe_callB call_len_seq (by rfl) B.len PySem.boot_len (pa_cons (pv 0) pa_nil)) pe_int) (pv 4)))
      (pss_cons (ps_set (i := 7) sc_stage_choices.nd rfl (Or.inl rfl) (pe_lst pa_nil))
      (pss_cons (ps_for PassesOwn.never rfl (pi_list (pe_callC C_word_counts (hr.mono (by omega)) (by rfl) (pa_cons (pv 1) (pa_cons (pv 3) (pa_cons (pv 5) (pa_cons (pv 6) pa_nil)))))) (pg_name (i := 8) sc_stage_choices.nd rfl (Or.inl rfl)) (pss_one (ps_if (pt_cmpR op_eq (pv 8) (pv 6) (nomark _)) (pss_one (ps_expr (pe_bm PySem.F.plainAttrs_list PySem.F.slot_list_append PySem.F.type_list_append mt_append (pv 7) (pa_cons (pe_tup (pa_cons (pv 8) (pa_cons pe_int (pa_cons pe_non pa_nil)))) pa_nil)))) (pss_one (ps_if (pt_cmpR op_ne (pv 8) (pv 5) (nomark _)) (pss_one (ps_expr (pe_bm PySem.F.plainAttrs_list PySem.F.slot_list_append PySem.F.type_list_append mt_append (pv 7) (pa_cons (pe_tup (pa_cons (pv 8) (pa_cons (pe_ix ix_list (pv 0) (pe_op op_add (pv 4) (pv 8)) (fun _ _ => rfl)) (pa_cons (pe_tup (pa_cons (pe_op op_add (pv 3) pe_int) (pa_cons (pe_op op_add (pv 4) (pv 8)) (pa_cons (pe_callB (call_min2 rfl) (by rfl) B.min (by decide +kernel) (pa_cons (pe_op op_mul pe_int (pe_op op_sub (pv 5) (pv 8))) (pa_cons (pe_op op_sub (pv 6) (pv 8)) pa_nil))) pa_nil)))) pa_nil)))) pa_nil)))) pss_nil)))))
      (pss_one (ps_ret (pv 7))))))), ?_⟩
    obtain ⟨hsq, hst, ⟨o1, o2, o3, o4⟩, hln, hkk⟩ := hs
    refine q_unp (ev_var rfl) hst rfl fun H1 e1 => ⟨_, _, rfl, _, _, rfl, _, _, rfl, rfl, ?_⟩
    have hlen : ((sums.map V.int).length : Int) = (sums.length : Int) := by rw [List.length_map]
    generalize hn : (sums.length : Int) - 1 - m = left at *
    refine q_asg (v := .int left) (ev_is (ev_sub (ev_sub (ev_len (ev_var rfl) (ex_l e1 hsq)) ev_c) (ev_var rfl)) (by rw [hlen, hn])) fun H2 e2 => ?_
    refine q_asgL (el_lst ea_nil (by decide)) fun p H3 hp e3 h3 => ?_
    have e13 := (e1.trans e2).trans e3
    have hp0 : H p = none := fresh_back (e1.trans e2) hp
    have hxl : ((wc limit depth kk left).map V.int).length ≤ 1001 := by rw [List.length_map]; exact wc_len (by omega)
    refine q_forNL (xs := (wc limit depth kk left).map V.int) (el_call (ea_cons (ev_var rfl) (ea_cons (ev_var rfl) (ea2 (ev_var rfl) (ev_var rfl)))) fun H1 e1 Q q E => ⟨limit, depth, kk, left, rfl, by omega, by omega, by omega, fun p H2 hp e2 h2 => q p H2 hp e2 h2⟩)
      (fun w i σ H' => ∃ (vs : List V) (c : Option V), σ = [some (.ref l), some (.int limit), some (.ref t), some (.int depth), some (.int m), some (.int kk), some (.int left), some (.ref p), c] ∧ Ex H H' ∧ w ≠ p ∧ H' w = some (.lst ((wc limit depth kk left).map V.int)) ∧ H' p = some (.lst vs) ∧ DpAll K H' vs (chsD (((wc limit depth kk left).take i).filterMap (chOf sums depth m kk))))
      (fun w H4 hw e4 h4 => ⟨[], none, rfl, e13.trans e4, (fun z => by rw [z, h3] at hw; cases hw), h4, e4 p _ h3, .nil⟩)
      (fun w i σ H' _ hP => by
        obtain ⟨vs, c, _, _, _, hw, _⟩ := hP
        exact sq_of hw) ?_ ?_
    · rintro w i x σ H' hi ⟨vs, c, rfl, eh, hwp, hw, hl, hd⟩
      obtain ⟨a, hia, rfl⟩ : ∃ a, (wc limit depth kk left)[i]? = some a ∧ V.int a = x := by
        rw [List.getElem?_map] at hi
        cases hz : (wc limit depth kk left)[i]? with
        | none => rw [hz] at hi; cases hi
        | some a => rw [hz] at hi; exact ⟨a, rfl, Option.some.inj hi⟩
      have ham := wc_mem (by omega) (List.mem_of_getElem? hia)
      have hil : i < 1001 := by
        have := (List.getElem?_eq_some_iff.mp hia).1
        have := wc_len (limit := limit) (depth := depth) (free := kk) (left := left) (by omega)
        omega
      have hvl : vs.length < 100000 := by
        rw [DpAll.len hd]
        have := fm_len (chOf sums depth m kk) ((wc limit depth kk left).take i)
        rw [List.length_take] at this
        unfold chsD
        rw [List.length_map]
        omega
      have hsq' := ex_l eh hsq
      have hone : chOf sums depth m kk a = if a = left then some (a, 0, none) else if a ≠ kk then some (a, sums.getD (m + a).toNat 0, some (depth + 1, m + a, if left - a < 2 * (kk - a) then left - a else 2 * (kk - a))) else none := by
        unfold chOf
        rw [hn]
      rw [fm_take _ _ hia]
      refine s_if (et_test (ev_eq (ev_var rfl) (ev_var rfl))) (fun hb H6 e6 => ?_) (fun hb H6 e6 => ?_)
      · rw [hone, if_pos (of_decide_eq_true hb)]
        refine s_appD (e6 p _ hl) (ev_var rfl) (ed_tup (eda_cons (ed_int (ev_var rfl)) (eda_cons (ed_int ev_c) (eda_cons (ed_non ev_c) eda_nil))) (by show 3 ≤ 100000; decide)) hvl fun v H7 e7 hv => ?_
        have e47 := e6.trans e7
        refine ⟨vs ++ [v], _, rfl, Ex.mut (eh.trans e47) hp0, hwp, by rw [upd_ne hwp]; exact e47 w _ hw, upd_same, ?_⟩
        unfold chsD
        rw [List.map_append]
        exact dp_app (e47 p _ hl) (DpAll.ext e47 _ _ hd) hv (chsD_noList _) rfl
      · rw [hone, if_neg (of_decide_eq_false hb)]
        refine s_if (et_test (ev_ne (ev_var rfl) (ev_var rfl))) (fun hb2 H7 e7 => ?_) (fun hb2 H7 e7 => ?_)
        · have hne : a ≠ kk := by
            intro z
            rw [decide_eq_true z] at hb2
            cases hb2
          rw [if_pos hne]
          have e47 := e6.trans e7
          have hix : (m + a).toNat < sums.length := by omega
          refine s_appD (e47 p _ hl) (ev_var rfl) (ed_tup (eda_cons (ed_int (ev_var rfl)) (eda_cons (ed_int (ev_op (ev_var rfl) (ev_add (ev_var rfl) (ev_var rfl)) (rv_ixL (ex_l e47 hsq') (atI_at (i := (m + a).toNat) (by omega) hix)))) (eda_cons
            (ed_tup (eda_cons (ed_int (ev_add (ev_var rfl) ev_c)) (eda_cons (ed_int (ev_add (ev_var rfl) (ev_var rfl))) (eda_cons (ed_int (ev_min (ev_op ev_c (ev_sub (ev_var rfl) (ev_var rfl)) (rv_mul (by decide))) (ev_sub (ev_var rfl) (ev_var rfl)))) eda_nil))) (by show 3 ≤ 100000; decide)) eda_nil))) (by show 3 ≤ 100000; decide)) hvl fun v H8 e8 hv => ?_
          have e48 := e47.trans e8
          refine ⟨vs ++ [v], _, rfl, Ex.mut (eh.trans e48) hp0, hwp, by rw [upd_ne hwp]; exact e48 w _ hw, upd_same, ?_⟩
          unfold chsD
          rw [List.map_append]
          exact dp_app (e48 p _ hl) (DpAll.ext e48 _ _ hd) hv (chsD_noList _) rfl
        · have hne : ¬ (a ≠ kk) := by
            intro z
            rw [decide_eq_false z] at hb2
            cases hb2
          rw [if_neg hne]
          have e47 := e6.trans e7
          refine ⟨vs, _, rfl, eh.trans e47, hwp, e47 w _ hw, e47 p _ hl, ?_⟩
          rw [Option.toList_none, List.append_nil]
          exact DpAll.ext e47 _ _ hd
    · rintro w σ H' ⟨vs, c, rfl, eh, hwp, hw, hl, hd⟩
      rw [List.length_map, List.take_length] at hd
      have e9 : chP sums limit depth m kk = (wc limit depth kk left).filterMap (chOf sums depth m kk) := by
        unfold chP
        rw [hn]
      rw [e9] at q
      exact s_ret (ev_var rfl) fun H2 e2 => q p vs H2 hp0 (eh.trans e2) (e2 p _ hl) (DpAll.ext e2 _ _ hd)
end
end K06
set_option Elab.async false
set_option linter.all false
set_option maxRecDepth 100000
set_option maxHeartbeats 4000000
namespace K06
open PySem PySem.Spec PyProof.Rows L2 GX KC Evl M03
section
variable {P : Program} {w : World} {K : PySem.W.Frag} {mg : Str → Option Value} {base : Heap}
/-! rests -/
theorem el_sortedI {σ : L2.St} {H : Hp} {ta : TE} {l : Addr} {ws : List Int} (h : Ev ta σ H (.ref l)) (hs : SqL K H l (ws.map V.int)) : EvL (tCB (rSortedI K) (tCons ta tNil)) σ H ((ranked ws).reverse.map V.int) := fun H1 e Q q =>
  h H1 e _ fun H2 e2 => ⟨l, ws, rfl, ex_l (e.trans e2) hs, fun ns' p hp hw hn => by
    rw [asc_is hp hw]
    exact q p _ (fresh_back e2 hn) (e2.trans (Ex.new hn)) upd_same⟩
theorem atI_lastD {L : List Int} (h : L ≠ []) : atI (L.map V.int) (-1) = some (.int (L.getLastD 0)) := by
  obtain ⟨M, z, e⟩ : ∃ M z, L = M ++ [z] := ⟨L.dropLast, L.getLast h, (List.dropLast_concat_getLast h).symm⟩
  subst e
  rw [List.map_append]
  show atI (M.map V.int ++ [V.int z]) (-1) = _
  rw [atI_last, List.getLastD_concat]
theorem ok_rests {f : Addr} {fd : FuncData} {k : Nat} (F : Fun K "rests" "rests" s_rests f fd) (B : Bs mg) : FnOk P w K mg base CX0 (k + 1) f fd ["weights"] (spSums K) := by
  refine F.ok sc_rests (fun vs H Q E h => ?_) (fun cdv A outer s H vs Q E hr h => ?_)
  · obtain ⟨l, ws, rfl, _⟩ := h
    rfl
  · obtain ⟨l, ws, rfl, hs, hn, q⟩ := h
    refine ⟨_, (pss_cons (ps_set (i := 1) sc_rests.nd rfl (Or.inl rfl) (pe_lst (pa_cons pe_int pa_nil)))
      (pss_cons (ps_for PassesOwn.never rfl (pi_list (pe_callB cr_sortedI (by rfl) B.sorted (by decide +kernel) (pa_cons (pv 0) pa_nil))) (pg_name (i := 2) sc_rests.nd rfl (Or.inl rfl)) (pss_one (ps_expr (pe_bm PySem.F.plainAttrs_list PySem.F.slot_list_append PySem.F.type_list_append mt_append (pv 1) (pa_cons (pe_op op_add (pe_ix ix_list (pv 1) (pe_un un_neg pe_int) (fun _ _ => rfl)) (pv 2)) pa_nil)))))
      (pss_one (ps_ret (pe_revL (pv 1)))))), ?_⟩
    refine q_asgL (el_lst (ea1 ev_c) (by decide)) fun p H1 hp e1 h1 => ?_
    have hrl : ((ranked ws).reverse.map V.int).length = ws.length := by rw [List.length_map, List.length_reverse, ranked_len]
    refine q_forNL (el_sortedI (ev_var rfl) (ex_l e1 hs))
      (fun a i σ H' => ∃ c, σ = [some (.ref l), some (.ref p), c] ∧ Ex H H' ∧ a ≠ p ∧ H' a = some (.lst ((ranked ws).reverse.map V.int)) ∧ H' p = some (.lst (((restL ((ranked ws).drop (ws.length - i))).reverse).map V.int)))
      (fun a H2 ha e2 h2 => ⟨none, rfl, e1.trans e2, (fun z => by rw [z, h1] at ha; cases ha), h2, ?_⟩)
      (fun a i σ H' _ hP => by
        obtain ⟨c, _, _, _, hw, _⟩ := hP
        exact sq_of hw) ?_ ?_
    · rw [e2 p _ h1, Nat.sub_zero, List.drop_of_length_le (by rw [ranked_len]; exact Nat.le_refl _)]
      rfl
    · rintro a i x σ H' hi ⟨c, rfl, eh, hap, ha, hl⟩
      have hiw : i < ws.length := by
        have := (List.getElem?_eq_some_iff.mp hi).1
        omega
      have hir : i < (ranked ws).reverse.length := by rw [List.length_reverse, ranked_len]; exact hiw
      have hx : x = .int ((ranked ws).reverse.getD i 0) := by
        have := int_at hir
        rw [this] at hi
        exact (Option.some.inj hi).symm
      subst hx
      have hst := asc_step (ranked ws).reverse i hir
      rw [List.reverse_reverse, List.length_reverse, ranked_len] at hst
      have hne : (restL ((ranked ws).drop (ws.length - i))).reverse ≠ [] := by
        intro z
        have h2 := congrArg List.length z
        rw [List.length_reverse, restL_len] at h2
        simp at h2
      have hlen : (((restL ((ranked ws).drop (ws.length - i))).reverse).map V.int).length < 100000 := by
        rw [List.length_map, List.length_reverse, restL_len, List.length_drop, ranked_len]; omega
      refine s_app hl (ev_var rfl) (ev_add (ev_op (ev_var rfl) (ev_un ev_c ru_neg) (rv_ixL (sq_of hl) (atI_lastD hne))) (ev_var rfl)) hlen fun H2 e2 => ?_
      refine ⟨_, rfl, Ex.mut (eh.trans e2) (fresh_back (Ex.refl H) hp), hap, by rw [upd_ne hap]; exact e2 a _ ha, ?_⟩
      rw [upd_same, hst, List.map_append]
      rfl
    · rintro a σ H' ⟨c, rfl, eh, hap, ha, hl⟩
      rw [hrl, Nat.sub_self, List.drop_zero] at hl
      refine s_retL (el_rev (ev_var rfl) (sq_of hl)) fun p2 H2 hp2 e2 h2 => q p2 H2 (fresh_back eh hp2) (eh.trans e2) ?_
      rw [h2, ← List.map_reverse, List.reverse_reverse]
      rfl
/-! choices -/
structure ChIn (K : PySem.W.Frag) (ws : List Int) (l t : Addr) (limit depth m k : Int) (H : Hp) : Prop where
  sq : SqL K H l (ws.map V.int)
  st : SqT K H t [.int depth, .int m, .int k]
  ok : StOk (sumsL ws) limit depth m k
  len : ws.length ≤ 64
  kk : k ≤ 1000
def spChoices (K : PySem.W.Frag) (g : List Int → Int → Int → Int → Int → List (Int × Int × Nxt)) : Sp := fun vs H Q _ => ∃ (l t : Addr) (ws : List Int) (limit depth m k : Int), vs = [.ref l, .int limit, .ref t] ∧ ChIn K ws l t limit depth m k H ∧ RetD K (.list (chsD (g (sumsL ws) limit depth m k))) H Q
end
end K06
set_option Elab.async false
set_option linter.all false
set_option maxRecDepth 100000
set_option maxHeartbeats 4000000
namespace K06
open PySem PySem.Spec PyProof.Rows L2 GX KC Evl M03
section
variable {P : Program} {w : World} {K : PySem.W.Frag} {mg : Str → Option Value} {base : Heap}
/-! the sum over pairs -/
def sumF (n : Nat) (f : Nat → Int) : Int := ((List.range n).map f).sum
theorem sumF_succ (n : Nat) (f : Nat → Int) : sumF (n + 1) f = sumF n f + f n := by
  unfold sumF
  rw [List.range_succ, List.map_append, List.sum_append]
  simp
theorem sumF_bd (n : Nat) (f : Nat → Int) (B : Int) (hB : 0 ≤ B) (h : ∀ i, i < n → -B ≤ f i ∧ f i ≤ B) : -(n * B) ≤ sumF n f ∧ sumF n f ≤ n * B := by
  induction n with
  | zero => simp [sumF]
  | succ n ih =>
    obtain ⟨h1, h2⟩ := ih fun i hi => h i (by omega)
    obtain ⟨h3, h4⟩ := h n (by omega)
    rw [sumF_succ]
    have e : ((n + 1 : Nat) : Int) * B = n * B + B := by
      rw [Int.natCast_add, Int.add_mul]
      simp
    omega
def fV (n : Nat) (f : Nat → Int) : List V := (List.range n).map fun i => V.int (f i)
theorem fV_succ (n : Nat) (f : Nat → Int) : fV (n + 1) f = fV n f ++ [V.int (f n)] := by
  unfold fV
  rw [List.range_succ, List.map_append] <;> rfl
theorem fV_sum (n : Nat) (f : Nat → Int) : vsum (fV n f) = sumF n f := by
  unfold fV sumF
  have e : (List.range n).map (fun i => V.int (f i)) = ((List.range n).map f).map V.int := by rw [List.map_map]; rfl
  rw [e, vsum_ints]
theorem fV_len (n : Nat) (f : Nat → Int) : (fV n f).length = n := by
  unfold fV
  rw [List.length_map, List.length_range]
theorem ev_sumZ {σ : L2.St} {H : Hp} {te ta tb : TE} {Pt a b : Addr} {xs ys : List Int} {n : Nat} (f : Nat → Int) (ha : Ev ta σ H (.ref a)) (hb : Ev tb σ H (.ref b)) (hx : SqL K H a (xs.map V.int)) (hy : SqL K H b (ys.map V.int)) (h1 : xs.length = n) (h2 : ys.length = n) (hn : n ≤ 1000)
    (tab : H Pt = some (TabX Pt)) (hf : ∀ i, i < n → -(2 ^ 40) ≤ f i ∧ f i ≤ 2 ^ 40) (he : ∀ i, i < n → ∀ H1, Ex H H1 → Ev te [some (.int (xs.getD i 0)), some (.int (ys.getD i 0))] H1 (.int (f i))) :
    Ev (tSumG (tGx Pt (iZip K (tCons ta (tCons tb tNil))) (gTup K 2 (gCons (gName 0) (gCons (gName 1) gNil))) tYes te [none, none] [0, 1])) σ H (.int (sumF n f)) := fun H1 e Q q =>
  ha H1 e _ fun H2 e2 => hb H2 (e.trans e2) _ fun H3 e3 => by
    have e13 := e2.trans e3
    have e03 := e.trans e13
    have hxl : (xs.map V.int).length = n := by rw [List.length_map]; exact h1
    have hyl : (ys.map V.int).length = n := by rw [List.length_map]; exact h2
    refine ⟨a, b, _, _, rfl, ex_l e03 hx, ex_l e03 hy, e03 Pt _ tab, fun i m zs H' => m + i = n ∧ Ex H3 H' ∧ zs = fV i f, ⟨n, by omega, Ex.refl _, rfl⟩, ?_⟩
    rintro i m zs H' ⟨hm, e4, rfl⟩
    have e04 := e03.trans e4
    by_cases hi : i < n
    · right
      refine ⟨⟨_, _, _, _, ex_l e04 hx, ex_l e04 hy, int_at (by omega), int_at (by omega)⟩, fun zs H5 => (m - 1) + (i + 1) = n ∧ Ex H3 H5 ∧ zs = fV (i + 1) f, fun zs H5 q => ⟨m - 1, by omega, q⟩, ?_⟩
      rintro v H5 ⟨T, x, y, rfl, hT, rfl, hx1, hy1⟩
      have ex1 := (Option.some.inj ((int_at (by omega : i < xs.length)).symm.trans (hx1 _ (ex_l e04 hx)))).symm
      have ey1 := (Option.some.inj ((int_at (by omega : i < ys.length)).symm.trans (hy1 _ (ex_l e04 hy)))).symm
      subst ex1
      subst ey1
      have e45 : Ex H' (upd H' T (.tup [.int (xs.getD i 0), .int (ys.getD i 0)])) := Ex.new hT
      refine ⟨T, _, rfl, .inl (.inl upd_same), rfl, _, _, rfl, _, _, rfl, rfl, rfl, ?_⟩
      show te [some (.int (xs.getD i 0)), some (.int (ys.getD i 0))] _ _
      refine he i hi _ (e04.trans e45) _ (Ex.refl _) _ fun H6 e6 => ?_
      have hb1 := sumF_bd i f (2 ^ 40) (by decide) fun j hj => hf j (by omega)
      have hb2 := hf i hi
      have hiB : (i : Int) * 2 ^ 40 ≤ 1000 * 2 ^ 40 := by omega
      refine ⟨sz_lt (by rw [fV_len]; omega), ⟨f i, rfl, ⟨by omega, by omega⟩, ?_⟩, by omega, (e4.trans e45).trans e6, (fV_succ i f).symm⟩
      rw [fV_sum]
      exact ⟨by omega, by omega⟩
    · left
      have hin : i = n := by omega
      subst hin
      refine ⟨⟨_, _, ex_l e04 hx, ex_l e04 hy, .inl (by rw [hxl]; exact Nat.le_refl _)⟩, ?_⟩
      show Q (.int (vsum (fV i f))) H'
      rw [fV_sum]
      exact q H' (e13.trans e4)
def costF (ws ls : List Int) (i : Nat) : Int := ws.getD i 0 * ls.getD i 0
def spCost (K : PySem.W.Frag) (Pt : Addr) : Sp := fun vs H Q _ => ∃ (l t : Addr) (ws ls : List Int), vs = [.ref l, .ref t] ∧ SqL K H l (ws.map V.int) ∧ SqL K H t (ls.map V.int) ∧ ws.length = ls.length ∧ ws.length ≤ 1000 ∧ H Pt = some (TabX Pt) ∧
  (∀ i, i < ws.length → -(2 ^ 62) < ws.getD i 0 ∧ ws.getD i 0 < 2 ^ 62 ∧ -(2 ^ 40) ≤ costF ws ls i ∧ costF ws ls i ≤ 2 ^ 40) ∧ ∀ H2, Ex H H2 → Q (.int (sumF ws.length (costF ws ls))) H2
theorem ok_cost {f c Pt : Addr} {fd : FuncData} {k : Nat} (F : FunT K "cost" "cost" s_cost f fd c) (TB : GxR.TabB base mg c Pt) (B : Bs mg) : FnOk P w K mg base CX0 (k + 6) f fd ["weights", "lengths"] (spCost K Pt) := by
  refine F.ok sc_cost (fun vs H Q E h => ?_) (fun A outer s H vs Q E hr h => ?_)
  · obtain ⟨l, t, ws, ls, rfl, _⟩ := h
    rfl
  · obtain ⟨l, t, ws, ls, rfl, hs, ht, hl, hn, htab, hb, q⟩ := h
    refine ⟨_, (pss_one (ps_ret (pe_sumG (k := 0) (pgx_gen (g := (gTup K 2 (gCons (gName 0) (gCons (gName 1) gNil)))) (N' := ["weight", "length"]) (cm := [none, none]) (own := [0, 1]) (k0 := 0) (k := 0) (hr.mono (by omega)) TB rfl (capOk_by (N := ["weights", "lengths"]) (sc := defScope s_cost) (by decide +kernel)) (pi_zip (by rfl) B.zip (pa_cons (pv 0) (pa_cons (pv 1) pa_nil))) (fun _ _ _ _ _ _ _ _ hr => (pg_tup rfl (pgs_cons (pg_name (i := 0) (show List.Nodup (["weight", "length"] : List Str) by decide +kernel) rfl (Or.inl rfl)) (pgs_cons (pg_name (i := 1) (show List.Nodup (["weight", "length"] : List Str) by decide +kernel) rfl (Or.inl rfl)) pgs_nil)))) (fun _ _ _ _ _ _ _ _ hr => pts_nil) (fun _ _ _ _ _ _ _ _ hr => (pe_op op_mul (pv 0) (pv 1)))) (hr.mono (by omega)) (by rfl) B.sum))), ?_⟩
    exact s_ret (ev_sumZ (K := K) (costF ws ls) (ev_var rfl) (ev_var rfl) hs ht rfl hl.symm hn htab (fun i hi => (hb i hi).2.2) fun i hi H1 e1 => ev_op (ev_var rfl) (ev_var rfl) (rv_mul (by have := hb i hi; omega))) q
end
end K06
set_option Elab.async false
set_option linter.all false
set_option maxRecDepth 100000
set_option maxHeartbeats 4000000
namespace K06
open PySem PySem.Spec PyProof.Rows L2 GX KC Evl M03
section
variable {P : Program} {w : World} {K : PySem.W.Frag} {mg : Str → Option Value} {base : Heap}
theorem el_lcLG {σ : L2.St} {H : Hp} {a : Addr} {xs : List V} {tl te : TE} {t : TT} {g : TG} {vs : List Nat} (f : Nat → Bool) (v : Nat → V) (h : Ev tl σ H (.ref a)) (hx : SqL K H a xs) (hz : xs.length ≤ 40000)
    (hg : ∀ (i : Nat) (x : V) H', Ex H H' → xs[i]? = some x → ∃ σ2, wipe σ2 vs = wipe σ vs ∧ (∀ H2, Ex H H2 → EvT t σ2 H2 (f i)) ∧ (∀ H2, Ex H H2 → f i = true → Ev te σ2 H2 (v i)) ∧ ∀ R : L2.St → Hp → Prop, R σ2 H' → g x (wipe σ vs) H' R) :
    EvL (tLc (iList K tl) g t te vs) σ H (given xs.length f v) := fun H0 e Q q => h H0 e _ fun H1 e1 => ⟨a, rfl, ⟨xs, ex_l (e.trans e1) hx⟩, fun Dl hD =>
  lc_list (xs := xs) (Cw H1 f v Dl) ⟨hD, Ex.new hD, upd_same⟩ (fun i H' _ p => ex_l ((e.trans e1).trans p.2.1) hx) (fun i x H' hi p => by
    obtain ⟨σ2, g1, g2, g3, g4⟩ := hg i x H' ((e.trans e1).trans p.2.1) hi
    exact g4 _ ⟨g1, cw_turn p (by have := (List.getElem?_eq_some_iff.mp hi).1; omega) (g2 H1 (e.trans e1)) (fun hf => g3 H1 (e.trans e1) hf)⟩)
    (fun H' p => q Dl H' (fresh_back e1 p.1) (e1.trans p.2.1) p.2.2)⟩
theorem t_yes {σ : L2.St} {H : Hp} {A B : Hp → Prop} (h : A H) : tYes σ H (fun b H3 => if b = true then A H3 else B H3) := by
  show (if true = true then A H else B H)
  rw [if_pos rfl]
  exact h
/-- the pairs (minus weight, symbol) -/
def PrAt (ws : List Int) (H : Hp) (ys : List V) (n : Nat) : Prop := ys.length = n ∧ ∀ j, j < n → ∃ t, ys[j]? = some (.ref t) ∧ H t = some (.tup [.int (-(ws.getD j 0)), .int (j : Int)])
theorem PrAt.ext {ws : List Int} {H H' : Hp} {ys : List V} {n : Nat} (e : Ex H H') (h : PrAt ws H ys n) : PrAt ws H' ys n := ⟨h.1, fun j hj => by
  obtain ⟨t, h1, h2⟩ := h.2 j hj
  exact ⟨t, h1, e t _ h2⟩⟩
theorem PrAt.add {ws : List Int} {H : Hp} {ys : List V} {n : Nat} {t : Addr} (h : PrAt ws H ys n) (ht : H t = some (.tup [.int (-(ws.getD n 0)), .int (n : Int)])) : PrAt ws H (ys ++ [.ref t]) (n + 1) := by
  refine ⟨by rw [List.length_append, h.1]; rfl, fun j hj => ?_⟩
  by_cases e : j < n
  · obtain ⟨u, h1, h2⟩ := h.2 j e
    exact ⟨u, by rw [List.getElem?_append_left (by rw [h.1]; exact e)]; exact h1, h2⟩
  · have : j = n := by omega
    subst this
    exact ⟨t, by rw [List.getElem?_append_right (by rw [h.1]; exact Nat.le_refl _), h.1, Nat.sub_self]; rfl, ht⟩
def keyOf (H : Hp) : V → Int × Int
  | .ref t => match H t with
    | some (.tup [.int a, .int b]) => (a, b)
    | _ => (0, 0)
  | _ => (0, 0)
theorem keyOf_tup {H : Hp} {t : Addr} {a b : Int} (h : H t = some (.tup [.int a, .int b])) : keyOf H (.ref t) = (a, b) := by
  show (match H t with | some (.tup [.int a, .int b]) => (a, b) | _ => ((0 : Int), (0 : Int))) = _
  rw [h]
def symOf (H : Hp) (z : V) : Nat := (keyOf H z).2.toNat
theorem sorted_syms {ws : List Int} {H : Hp} {ys zs : List V} (h : PrAt ws H ys ws.length) (hp : zs.Perm ys) (hs : SrtO.Srtd (ltP (keyOf H)) zs) : zs.map (symOf H) = rankL ws := by
  have hy : ∀ z ∈ ys, ∃ j t, j < ws.length ∧ z = .ref t ∧ H t = some (.tup [.int (-(ws.getD j 0)), .int (j : Int)]) := fun z hz => by
    obtain ⟨j, hj⟩ := List.mem_iff_getElem?.mp hz
    have hjl : j < ws.length := by rw [← h.1]; exact (List.getElem?_eq_some_iff.mp hj).1
    obtain ⟨t, h1, h2⟩ := h.2 j hjl
    rw [hj] at h1
    exact ⟨j, t, hjl, Option.some.inj h1, h2⟩
  have hsym : ∀ z ∈ ys, keyOf H z = (-(wAt ws (symOf H z)), (symOf H z : Int)) ∧ symOf H z < ws.length := fun z hz => by
    obtain ⟨j, t, hj, rfl, ht⟩ := hy z hz
    have hk := keyOf_tup ht
    have e : symOf H (.ref t) = j := by unfold symOf; rw [hk]; simp
    rw [e, hk]
    exact ⟨rfl, hj⟩
  have hys : ys.map (symOf H) = List.range ws.length := by
    refine List.ext_getElem? fun j => ?_
    rw [List.getElem?_map]
    by_cases hj : j < ws.length
    · obtain ⟨t, h1, h2⟩ := h.2 j hj
      rw [h1, List.getElem?_range hj]
      show some (symOf H (.ref t)) = _
      unfold symOf
      rw [keyOf_tup h2]
      simp
    · rw [List.getElem?_eq_none (by rw [h.1]; omega), List.getElem?_eq_none (by rw [List.length_range]; omega)]
      rfl
  have hperm : (zs.map (symOf H)).Perm (List.range ws.length) := by rw [← hys]; exact hp.map _
  refine IsRank.uniq ⟨?_, fun k => by rw [hperm.mem_iff, List.mem_range]⟩ (rank_is ws)
  have hnd : (zs.map (symOf H)).Nodup := hperm.nodup_iff.mpr List.nodup_range
  have hnd2 : zs.Pairwise fun a b => symOf H a ≠ symOf H b := List.pairwise_map.mp hnd
  refine List.pairwise_map.mpr ?_
  have h3 := hs.and hnd2
  refine List.Pairwise.imp_of_mem (fun {a b} ha hb hab => ?_) h3
  obtain ⟨ka, _⟩ := hsym a (hp.mem_iff.mp ha)
  obtain ⟨kb, _⟩ := hsym b (hp.mem_iff.mp hb)
  obtain ⟨h4, h5⟩ := hab
  have h6 := SrtO.lexB_no.mp h4
  rw [ka, kb] at h6
  unfold Rk
  simp only at h6
  omega
def spRanksP (K : PySem.W.Frag) (Pt : Addr) : Sp := fun vs H Q _ => ∃ (l : Addr) (ws : List Int), vs = [.ref l] ∧ SqL K H l (ws.map V.int) ∧ ws.length ≤ 64 ∧ H Pt = some (TabX Pt) ∧ RetL (nats (rankL ws)) H Q
theorem ok_ranks {f c Pt : Addr} {fd : FuncData} {k : Nat} (F : FunT K "ranks" "ranks" s_ranks f fd c) (TB : GxR.TabB base mg c Pt) (B : Bs mg) : FnOk P w K mg base CX0 (k + 7) f fd ["weights"] (spRanksP K Pt) := by
  refine F.ok sc_ranks (fun vs H Q E h => ?_) (fun A outer s H vs Q E hr h => ?_)
  · obtain ⟨l, ws, rfl, _⟩ := h
    rfl
  · obtain ⟨l, ws, rfl, hs, hn, htab, q⟩ := h
    refine ⟨_, (pss_cons (ps_set (i := 1) sc_ranks.nd rfl (Or.inl rfl) (pe_sortedG (k := 0) (pgx_gen (g := (gTup K 2 (gCons (gName 0) (gCons (gName 1) gNil)))) (N' := ["symbol", "weight"]) (cm := [none, none]) (own := [0, 1]) (k0 := 0) (k := 0) (hr.mono (by omega)) TB rfl (capOk_by (N := ["weights", "order", "_", "symbol"]) (sc := defScope s_ranks) (by decide +kernel)) (pi_enum (by rfl) B.enumerate (pa_cons (pv 0) pa_nil)) (fun _ _ _ _ _ _ _ _ hr => (pg_tup rfl (pgs_cons (pg_name (i := 0) (show List.Nodup (["symbol", "weight"] : List Str) by decide +kernel) rfl (Or.inl rfl)) (pgs_cons (pg_name (i := 1) (show List.Nodup (["symbol", "weight"] : List Str) by decide +kernel) rfl (Or.inl rfl)) pgs_nil)))) (fun _ _ _ _ _ _ _ _ hr => pts_nil) (fun _ _ _ _ _ _ _ _ hr => (pe_tup (pa_cons (pe_un un_neg (pv 1)) (pa_cons (pv 0) pa_nil))))) (fun _ => mt_sortPO) (hr.mono (by omega)) (by rfl) B.sorted))
      (pss_one (ps_ret (pe_lc (g := (gTup K 2 (gCons (gName 2) (gCons (gName 3) gNil)))) rfl sc_ranks.nd (pi_list (pv 1)) (blkOk_by (own := [("_", 2), ("symbol", 3)]) (N := ["weights", "order", "_", "symbol"]) (sc := defScope s_ranks) (by decide +kernel)) (fun _ _ _ _ _ => (pg_tup rfl (pgs_cons (pg_name (i := 2) sc_ranks.nd rfl (Or.inl rfl)) (pgs_cons (pg_name (i := 3) sc_ranks.nd rfl (Or.inl rfl)) pgs_nil)))) (fun _ _ _ _ _ => pts_nil) (fun _ _ _ _ _ => (pv 3)))))), ?_⟩
    have hxl : (ws.map V.int).length = ws.length := List.length_map _
    refine ⟨_, rfl, l, _, rfl, hs, htab, fun i m zs H' => m + i = ws.length ∧ Ex H H' ∧ PrAt ws H' zs i, ⟨ws.length, by omega, Ex.refl _, rfl, fun j hj => by omega⟩, ?_⟩
    rintro i m zs H' ⟨hm, e4, hpr⟩
    by_cases hi : i < ws.length
    · right
      refine ⟨⟨_, _, ex_l e4 hs, int_at hi⟩, fun zs H5 => (m - 1) + (i + 1) = ws.length ∧ Ex H H5 ∧ PrAt ws H5 zs (i + 1), fun zs H5 q => ⟨m - 1, by omega, q⟩, ?_⟩
      rintro v H5 ⟨T, x, rfl, hT, rfl, hx1⟩
      have ex1 := (Option.some.inj ((int_at hi).symm.trans (hx1 _ (ex_l e4 hs)))).symm
      subst ex1
      have e45 : Ex H' (upd H' T (.tup [.int (i : Int), .int (ws.getD i 0)])) := Ex.new hT
      refine ⟨T, _, rfl, .inl (.inl upd_same), rfl, _, _, rfl, _, _, rfl, rfl, rfl, ?_⟩
      refine t_yes ?_
      show tTup (tCons (tUn (rU fun i => V.int (-i)) (tVar 1)) (tCons (tVar 0) tNil)) [some (.int (i : Int)), some (.int (ws.getD i 0))] _ _
      refine (eu_tup (σ := [some (.int (i : Int)), some (.int (ws.getD i 0))]) (ea2 (ev_un (x := .int (ws.getD i 0)) (ev_var (i := 1) rfl) ru_neg) (ev_var (i := 0) (v := .int (i : Int)) rfl)) (by show 2 ≤ 100000; decide)) _ (Ex.refl _) _ fun p H6 hp e6 h6 => ?_
      have e46 := e45.trans e6
      exact ⟨sz_lt (by rw [hpr.1]; omega), trivial, by omega, e4.trans e46, (hpr.ext e46).add h6⟩
    · left
      have hin : i = ws.length := by omega
      subst hin
      refine ⟨⟨_, ex_l e4 hs, by rw [hxl]; exact Nat.le_refl _⟩, fun o ho => ?_⟩
      have ne : ∀ t u, H' t = some u → t ≠ o := fun t u h z => by rw [z, ho] at h; cases h
      have eo : Ex H' (upd H' o (.lst zs)) := Ex.new ho
      refine ⟨o, zs, keyOf H', rfl, rfl, upd_same, fun y hy => ?_, fun zs' hsr hst => ?_⟩
      · obtain ⟨j, hj⟩ := List.mem_iff_getElem?.mp hy
        have hjl : j < ws.length := by rw [← hpr.1]; exact (List.getElem?_eq_some_iff.mp hj).1
        obtain ⟨t, h1, h2⟩ := hpr.2 j hjl
        rw [hj] at h1
        have ey := Option.some.inj h1
        subst ey
        refine ⟨t, rfl, ?_⟩
        rw [keyOf_tup h2]
        exact eo t _ h2
      · have hsy := sorted_syms hpr hst.perm hsr
        have hzl : zs'.length = ws.length := by rw [hst.perm.length_eq, hpr.1]
        have hov : upd (upd H' o (.lst zs)) o (.lst zs') = upd H' o (.lst zs') := by
          funext b
          by_cases e : b = o
          · rw [e, upd_same, upd_same]
          · rw [upd_ne e, upd_ne e, upd_ne e]
        rw [hov]
        have e0o : Ex H (upd H' o (.lst zs')) := e4.trans (Ex.new ho)
        have hz : ∀ i x, zs'[i]? = some x → ∃ t, x = .ref t ∧ i < ws.length ∧ H' t = some (.tup [.int (-(ws.getD ((rankL ws).getD i 0) 0)), .int ((rankL ws).getD i 0 : Nat)]) := fun i x hx => by
          have hil : i < ws.length := by rw [← hzl]; exact (List.getElem?_eq_some_iff.mp hx).1
          have hm := hst.perm.mem_iff.mp (List.mem_of_getElem? hx)
          obtain ⟨j, hj⟩ := List.mem_iff_getElem?.mp hm
          have hjl : j < ws.length := by rw [← hpr.1]; exact (List.getElem?_eq_some_iff.mp hj).1
          obtain ⟨t, h1, h2⟩ := hpr.2 j hjl
          rw [hj] at h1
          have ey := Option.some.inj h1
          subst ey
          have hsj : symOf H' (.ref t) = j := by unfold symOf; rw [keyOf_tup h2]; simp
          have hr1 : (rankL ws).getD i 0 = j := by
            rw [← hsy, List.getD_eq_getElem?_getD, List.getElem?_map, hx]
            exact hsj
          rw [hr1]
          exact ⟨t, rfl, hil, h2⟩
        show tRet (tLc (iList K (tVar 1)) (gTup K 2 (gCons (gName 2) (gCons (gName 3) gNil))) tYes (tVar 3) [2, 3]) { nx := fun _ H' => Q .non H', rt := Q } [some (.ref l), some (.ref o), none, none] _
        refine s_retL (xs := nats (rankL ws)) ?_ fun p H8 hp e8 h8 => q p H8 (fresh_back e0o hp) (e0o.trans e8) h8
        have hgv : nats (rankL ws) = given zs'.length (fun _ => true) fun i => V.int ((rankL ws).getD i 0 : Nat) := by
          unfold given
          rw [List.filter_eq_self.mpr fun _ _ => rfl, hzl]
          refine List.ext_getElem? fun j => ?_
          unfold nats
          rw [List.getElem?_map, List.getElem?_map]
          by_cases hj : j < ws.length
          · rw [List.getElem?_range hj, List.getElem?_eq_getElem (by rw [rank_len]; exact hj), Option.map_some, Option.map_some, List.getD_eq_getElem?_getD, List.getElem?_eq_getElem (by rw [rank_len]; exact hj)]
            rfl
          · rw [List.getElem?_eq_none (by rw [rank_len]; omega), List.getElem?_eq_none (by rw [List.length_range]; omega)]
            rfl
        rw [hgv]
        refine el_lcLG (K := K) _ _ (ev_var rfl) (sq_of upd_same) (by omega) fun i x H9 e9 hx => ?_
        obtain ⟨t, rfl, hil, ht⟩ := hz i x hx
        have ht9 : H9 t = some (.tup [.int (-(ws.getD ((rankL ws).getD i 0) 0)), .int ((rankL ws).getD i 0 : Nat)]) := e9 t _ (by rw [upd_ne (ne t _ ht)]; exact ht)
        exact ⟨[some (.ref l), some (.ref o), some (.int (-(ws.getD ((rankL ws).getD i 0) 0))), some (.int ((rankL ws).getD i 0 : Nat))], rfl, fun H2 _ => fun H3 _ R r => r H3 (Ex.refl H3), fun H2 _ _ => ev_var rfl, fun R r => ⟨t, _, rfl, .inl (.inl ht9), rfl, _, _, rfl, _, _, rfl, rfl, r⟩⟩
end
end K06
set_option linter.all false
/-! Codes of least cost: choices down the depths cost no more than any lengths that keep the limit. Weights in descending order. -/
namespace M04
/-- the rests -/
def S (vs : List Int) (m : Nat) : Int := (vs.drop m).sum
/-- choices from a stage to an end, and what they cost -/
inductive Pth (vs : List Int) (L : Nat) : Nat → Nat → Nat → List Nat → Int → Prop
  | stop {d m k a : Nat} : d ≤ L → (d = 0 → a = 0) → m + a = vs.length → a ≤ k → Pth vs L d m k [a] 0
  | go {d m k a : Nat} {as : List Nat} {c : Int} : d < L → (d = 0 → a = 0) → m + a < vs.length → a < k → Pth vs L (d + 1) (m + a) (min (2 * (k - a)) (vs.length - m - a)) as c → Pth vs L d m k (a :: as) (S vs (m + a) + c)
def RR : List Int → List Nat → Nat → Int
  | v :: vs, l :: ls, d => v * ((l - d : Nat) : Int) + RR vs ls d
  | _, _, _ => 0
def TT : List Int → List Nat → Nat → Int
  | v :: vs, l :: ls, d => (if d < l then v else 0) + TT vs ls d
  | _, _, _ => 0
def clt : List Nat → Nat → Nat
  | [], _ => 0
  | l :: ls, d => (if l < d then 1 else 0) + clt ls d
def ceq : List Nat → Nat → Nat
  | [], _ => 0
  | l :: ls, d => (if l = d then 1 else 0) + ceq ls d
def slt (L : Nat) : List Nat → Nat → Nat
  | [], _ => 0
  | l :: ls, d => (if l < d then 2 ^ (L - l) else 0) + slt L ls d
def tot (L : Nat) : List Nat → Nat
  | [] => 0
  | l :: ls => 2 ^ (L - l) + tot L ls
theorem clt_succ (d : Nat) : ∀ ls : List Nat, clt ls (d + 1) = clt ls d + ceq ls d
  | [] => rfl
  | l :: ls => by
    have := clt_succ d ls
    unfold clt ceq
    by_cases h : l < d
    · rw [if_pos (by omega), if_pos h, if_neg (by omega)]
      omega
    · by_cases h2 : l = d
      · rw [if_pos (by omega), if_neg h, if_pos h2]
        omega
      · rw [if_neg (by omega), if_neg h, if_neg h2]
        omega
theorem slt_succ (L d : Nat) : ∀ ls : List Nat, slt L ls (d + 1) = slt L ls d + ceq ls d * 2 ^ (L - d)
  | [] => by simp [slt, ceq]
  | l :: ls => by
    have := slt_succ L d ls
    unfold slt ceq
    by_cases h : l < d
    · rw [if_pos (by omega), if_pos h, if_neg (by omega), this, Nat.zero_add]
      omega
    · by_cases h2 : l = d
      · subst h2
        rw [if_pos (by omega), if_neg h, if_pos rfl, this, Nat.add_mul]
        omega
      · rw [if_neg (by omega), if_neg h, if_neg h2, this]
        simp only [Nat.zero_add]
theorem clt_le (d : Nat) : ∀ ls : List Nat, clt ls d ≤ ls.length
  | [] => Nat.le_refl _
  | l :: ls => by
    have := clt_le d ls
    unfold clt
    rw [List.length_cons]
    split <;> omega
theorem slt_le (L d : Nat) : ∀ ls : List Nat, slt L ls d ≤ tot L ls
  | [] => Nat.le_refl _
  | l :: ls => by
    have := slt_le L d ls
    have hp : 0 < 2 ^ (L - l) := Nat.pow_pos (by decide)
    unfold slt tot
    split <;> omega
/-- while some length is not below d, something is left -/
theorem slt_lt (L d : Nat) : ∀ ls : List Nat, clt ls d < ls.length → slt L ls d < tot L ls
  | [], h => by simp [clt] at h
  | l :: ls, h => by
    have hp : 0 < 2 ^ (L - l) := Nat.pow_pos (by decide)
    unfold clt at h
    rw [List.length_cons] at h
    unfold slt tot
    by_cases z : l < d
    · rw [if_pos z] at h ⊢
      have := slt_lt L d ls (by omega)
      omega
    · rw [if_neg z]
      have := slt_le L d ls
      omega
theorem clt_all {d : Nat} : ∀ ls : List Nat, (∀ l ∈ ls, l < d) → clt ls d = ls.length
  | [], _ => rfl
  | l :: ls, h => by
    unfold clt
    rw [if_pos (h l (by simp)), clt_all ls fun x hx => h x (by simp [hx]), List.length_cons]
    omega
theorem clt_none {d : Nat} : ∀ ls : List Nat, (∀ l ∈ ls, d ≤ l) → clt ls d = 0
  | [], _ => rfl
  | l :: ls, h => by
    have := h l (by simp)
    unfold clt
    rw [if_neg (by omega), clt_none ls fun x hx => h x (by simp [hx])]
theorem slt_none {L d : Nat} : ∀ ls : List Nat, (∀ l ∈ ls, d ≤ l) → slt L ls d = 0
  | [], _ => rfl
  | l :: ls, h => by
    have := h l (by simp)
    unfold slt
    rw [if_neg (by omega), slt_none ls fun x hx => h x (by simp [hx])]
theorem RR_step (d : Nat) : ∀ (vs : List Int) (ls : List Nat), RR vs ls d = TT vs ls d + RR vs ls (d + 1)
  | [], _ => by simp [RR, TT]
  | v :: vs, [] => by simp [RR, TT]
  | v :: vs, l :: ls => by
    have := RR_step d vs ls
    unfold RR TT
    by_cases h : d < l
    · rw [if_pos h, show l - d = (l - (d + 1)) + 1 by omega]
      push_cast
      rw [Int.mul_add]
      omega
    · rw [if_neg h, show l - d = 0 by omega, show l - (d + 1) = 0 by omega]
      omega
theorem RR_nonneg (d : Nat) : ∀ (vs : List Int) (ls : List Nat), (∀ v ∈ vs, 0 ≤ v) → 0 ≤ RR vs ls d
  | [], _, _ => by simp [RR]
  | v :: vs, [], _ => by simp [RR]
  | v :: vs, l :: ls, h => by
    have h1 := RR_nonneg d vs ls fun x hx => h x (by simp [hx])
    have h2 := Int.mul_nonneg (h v (by simp)) (Int.natCast_nonneg (l - d))
    unfold RR
    omega
/-- those that are longer weigh no less than the lightest ones -/
theorem TT_ge (d : Nat) : ∀ (vs : List Int) (ls : List Nat), vs.length = ls.length → vs.Pairwise (fun a b => b ≤ a) → S vs (clt ls (d + 1)) ≤ TT vs ls d
  | [], ls, _, _ => by simp [S, TT]
  | v :: vs, [], h, _ => by simp at h
  | v :: vs, l :: ls, h, hs => by
    have hlen : vs.length = ls.length := by simpa using h
    have hs2 := List.pairwise_cons.mp hs
    have ih := TT_ge d vs ls hlen hs2.2
    unfold TT clt
    by_cases z : d < l
    · rw [if_pos z, if_neg (show ¬ l < d + 1 by omega), Nat.zero_add]
      have hc := clt_le (d + 1) ls
      generalize clt ls (d + 1) = c at *
      unfold S at *
      cases c with
      | zero =>
        simp only [List.drop_zero, List.sum_cons] at *
        omega
      | succ c =>
        rw [List.drop_succ_cons]
        have hcl : c < vs.length := by omega
        rw [List.drop_eq_getElem_cons hcl, List.sum_cons]
        have := hs2.1 vs[c] (List.getElem_mem hcl)
        omega
    · rw [if_neg z, if_pos (show l < d + 1 by omega), Nat.add_comm 1]
      unfold S at *
      rw [List.drop_succ_cons]
      omega
section
variable {vs : List Int} {ls : List Nat} {L : Nat}
/-- THE LOWER WAY: any lengths that keep the limit are met by choices that cost no more -/
theorem path_of (hlen : vs.length = ls.length) (h0 : ∀ v ∈ vs, 0 ≤ v) (hs : vs.Pairwise (fun a b => b ≤ a)) (h1 : ∀ l ∈ ls, 1 ≤ l ∧ l ≤ L) (hk : tot L ls ≤ 2 ^ L) : ∀ (t d k K : Nat), d + t = L → clt ls d < ls.length → K * 2 ^ t + slt L ls d = 2 ^ L → min K (ls.length - clt ls d) ≤ k →
    ∃ as c, Pth vs L d (clt ls d) k as c ∧ c ≤ RR vs ls d := by
  intro t
  induction t with
  | zero =>
    intro d k K hd hm hK hmin
    have hdL : d = L := by omega
    have hall := clt_all (d := d + 1) ls fun l hl => by have := (h1 l hl).2; omega
    have hs1 := clt_succ d ls
    have hs2 := slt_succ L d ls
    have hle := slt_le L (d + 1) ls
    rw [hdL, Nat.sub_self, Nat.pow_zero] at hs2
    rw [hdL] at hs1 hall hm hK hmin hle ⊢
    rw [Nat.pow_zero] at hK
    refine ⟨[ceq ls L], 0, .stop (Nat.le_refl _) (fun z => ?_) (by omega) (by omega), RR_nonneg _ _ _ h0⟩
    exfalso
    have : ls = [] := by
      cases ls with
      | nil => rfl
      | cons a r => have := h1 a (by simp); omega
    rw [this] at hm
    simp at hm
  | succ t ih =>
    intro d k K hd hm hK hmin
    have hs1 := clt_succ d ls
    have hs2 := slt_succ L d ls
    have hle := slt_le L (d + 1) ls
    have hc1 := clt_le (d + 1) ls
    have hT := TT_ge d vs ls hlen hs
    have hR := RR_step d vs ls
    have hz : d = 0 → ceq ls d = 0 := fun z => by
      have e1 := clt_none (d := d + 1) ls fun l hl => by have := (h1 l hl).1; omega
      omega
    have hp : 0 < 2 ^ (t + 1) := Nat.pow_pos (by decide)
    rw [show L - d = t + 1 by omega] at hs2
    have hcK : ceq ls d ≤ K := by
      have : ceq ls d * 2 ^ (t + 1) ≤ K * 2 ^ (t + 1) := by omega
      exact Nat.le_of_mul_le_mul_right this hp
    by_cases he : clt ls (d + 1) = ls.length
    · exact ⟨[ceq ls d], 0, .stop (by omega) hz (by omega) (by omega), RR_nonneg _ _ _ h0⟩
    · have hlt := slt_lt L (d + 1) ls (by omega)
      have hcK2 : ceq ls d < K := by
        by_cases z : ceq ls d = K
        · rw [z] at hs2
          omega
        · omega
      have hKe : 2 * (K - ceq ls d) * 2 ^ t + slt L ls (d + 1) = 2 ^ L := by
        have e1 : 2 * (K - ceq ls d) * 2 ^ t = (K - ceq ls d) * 2 ^ (t + 1) := by rw [Nat.pow_succ]; grind
        rw [e1, Nat.sub_mul, hs2]
        have : ceq ls d * 2 ^ (t + 1) ≤ K * 2 ^ (t + 1) := Nat.mul_le_mul_right _ hcK
        omega
      obtain ⟨as, c, hp2, hc⟩ := ih (d + 1) (min (2 * (k - ceq ls d)) (vs.length - clt ls d - ceq ls d)) (2 * (K - ceq ls d)) (by omega) (by omega) hKe (by omega)
      rw [hs1] at hp2
      refine ⟨ceq ls d :: as, S vs (clt ls d + ceq ls d) + c, .go (by omega) hz (by omega) (by omega) hp2, ?_⟩
      rw [hs1] at hT
      omega
theorem path_first (hlen : vs.length = ls.length) (hne : ls ≠ []) (h0 : ∀ v ∈ vs, 0 ≤ v) (hs : vs.Pairwise (fun a b => b ≤ a)) (h1 : ∀ l ∈ ls, 1 ≤ l ∧ l ≤ L) (hk : tot L ls ≤ 2 ^ L) : ∃ as c, Pth vs L 0 0 1 as c ∧ c ≤ RR vs ls 0 := by
  have e := clt_none (d := 0) ls fun l hl => Nat.zero_le l
  have e2 := slt_none (L := L) (d := 0) ls fun l hl => Nat.zero_le l
  have := path_of hlen h0 hs h1 hk L 0 1 1 (by omega) (by rw [e]; exact List.length_pos_iff.mpr hne) (by rw [e2]; omega) (by omega)
  rwa [e] at this
end
/-! ### from choices to lengths -/
def lensF : Nat → List Nat → List Nat
  | _, [] => []
  | d, a :: as => List.replicate a d ++ lensF (d + 1) as
theorem RR_app : ∀ (xs ys : List Int) (ls ms : List Nat) (d : Nat), xs.length = ls.length → RR (xs ++ ys) (ls ++ ms) d = RR xs ls d + RR ys ms d
  | [], ys, [], ms, d, _ => by simp [RR]
  | [], ys, _ :: _, ms, d, h => by simp at h
  | _ :: _, ys, [], ms, d, h => by simp at h
  | x :: xs, ys, l :: ls, ms, d, h => by
    have := RR_app xs ys ls ms d (by simpa using h)
    show x * _ + RR (xs ++ ys) (ls ++ ms) d = x * _ + RR xs ls d + RR ys ms d
    omega
theorem RR_rep (d : Nat) : ∀ (xs : List Int) (a : Nat), xs.length = a → RR xs (List.replicate a d) d = 0
  | [], a, h => by simp [RR]
  | x :: xs, 0, h => by simp at h
  | x :: xs, a + 1, h => by
    have := RR_rep d xs a (by simpa using h)
    rw [List.replicate_succ]
    unfold RR
    rw [Nat.sub_self, this]
    simp
theorem TT_all (d : Nat) : ∀ (xs : List Int) (ls : List Nat), xs.length = ls.length → (∀ l ∈ ls, d < l) → TT xs ls d = xs.sum
  | [], _, _, _ => by simp [TT]
  | x :: xs, [], h, _ => by simp at h
  | x :: xs, l :: ls, h, hl => by
    unfold TT
    rw [if_pos (hl l (by simp)), TT_all d xs ls (by simpa using h) fun y hy => hl y (by simp [hy]), List.sum_cons]
theorem tot_app (L : Nat) : ∀ a b : List Nat, tot L (a ++ b) = tot L a + tot L b
  | [], b => by simp [tot]
  | x :: a, b => by
    have := tot_app L a b
    show _ + tot L (a ++ b) = _ + tot L a + tot L b
    omega
theorem tot_rep (L d : Nat) : ∀ a : Nat, tot L (List.replicate a d) = a * 2 ^ (L - d)
  | 0 => by simp [tot]
  | a + 1 => by
    rw [List.replicate_succ, Nat.add_mul]
    unfold tot
    rw [tot_rep L d a]
    omega
theorem lens_of {vs : List Int} {L d m k : Nat} {as : List Nat} {c : Int} (h : Pth vs L d m k as c) (hm : m ≤ vs.length) :
    (lensF d as).length = vs.length - m ∧ RR (vs.drop m) (lensF d as) d = c ∧ tot L (lensF d as) ≤ k * 2 ^ (L - d) ∧ (∀ l ∈ lensF d as, d ≤ l ∧ l ≤ L) ∧ (d = 0 → ∀ l ∈ lensF d as, 1 ≤ l) := by
  induction h with
  | @stop d m k a hd hz ha hak =>
    have e : lensF d [a] = List.replicate a d := by simp [lensF]
    rw [e]
    refine ⟨by rw [List.length_replicate]; omega, RR_rep d _ a (by rw [List.length_drop]; omega), ?_, fun l hl => ?_, fun z l hl => ?_⟩
    · rw [tot_rep]
      exact Nat.mul_le_mul_right _ hak
    · rw [(List.mem_replicate.mp hl).2]
      exact ⟨Nat.le_refl _, hd⟩
    · have := (List.mem_replicate.mp hl).1
      rw [hz z] at this
      exact absurd rfl this
  | @go d m k a as c hd hz ha hak hp ih =>
    obtain ⟨i1, i2, i3, i4, _⟩ := ih (by omega)
    have e : lensF d (a :: as) = List.replicate a d ++ lensF (d + 1) as := rfl
    rw [e]
    have hdr : vs.drop m = (vs.drop m).take a ++ vs.drop (m + a) := by
      rw [← List.drop_drop]
      exact (List.take_append_drop a (vs.drop m)).symm
    refine ⟨by rw [List.length_append, List.length_replicate, i1]; omega, ?_, ?_, fun l hl => ?_, fun z l hl => ?_⟩
    · rw [hdr, RR_app _ _ _ _ _ (by rw [List.length_take, List.length_drop, List.length_replicate]; omega), RR_rep d _ a (by rw [List.length_take, List.length_drop]; omega), RR_step, i2, TT_all d _ _ (by rw [List.length_drop, i1]) fun l hl => by have := (i4 l hl).1; omega]
      show 0 + (S vs (m + a) + c) = _
      omega
    · rw [tot_app, tot_rep]
      have h1 : min (2 * (k - a)) (vs.length - m - a) * 2 ^ (L - (d + 1)) ≤ 2 * (k - a) * 2 ^ (L - (d + 1)) := Nat.mul_le_mul_right _ (Nat.min_le_left _ _)
      have h2 : 2 * (k - a) * 2 ^ (L - (d + 1)) = (k - a) * 2 ^ (L - d) := by
        rw [show L - d = (L - (d + 1)) + 1 by omega, Nat.pow_succ]
        grind
      have h3 : a * 2 ^ (L - d) + (k - a) * 2 ^ (L - d) = k * 2 ^ (L - d) := by
        rw [← Nat.add_mul, show a + (k - a) = k by omega]
      omega
    · rcases List.mem_append.mp hl with y | y
      · rw [(List.mem_replicate.mp y).2]
        omega
      · have := i4 l y
        omega
    · rcases List.mem_append.mp hl with y | y
      · have := (List.mem_replicate.mp y).1
        rw [hz z] at this
        exact absurd rfl this
      · have := (i4 l y).1
        omega
end M04
set_option linter.all false
/-! The values of stages, the choices of the rule, and lengths by symbol. -/
namespace M04
open M03
abbrev Stg := Int × Int × Int
abbrev Cho := Int × Int × Nxt
/-- the least of those that are there, as a loop keeps it -/
def oadd (best price : Option Int) : Option Int :=
  match price with
  | none => best
  | some p =>
    match best with
    | none => some p
    | some b => if p < b then some p else some b
def omin (l : List (Option Int)) : Option Int := l.foldl oadd none
structure IsMin (o : Option Int) (l : List (Option Int)) : Prop where
  none : o = none → ∀ x ∈ l, x = none
  mem : ∀ v, o = some v → some v ∈ l
  le : ∀ v w, o = some v → some w ∈ l → v ≤ w
theorem IsMin.add {o : Option Int} {l : List (Option Int)} (h : IsMin o l) (p : Option Int) : IsMin (oadd o p) (l ++ [p]) := by
  obtain ⟨h1, h2, h3⟩ := h
  cases p with
  | none =>
    refine ⟨fun e x hx => ?_, fun v e => List.mem_append_left _ (h2 v e), fun v w e hw => ?_⟩
    · rcases List.mem_append.mp hx with y | y
      · exact h1 e x y
      · exact List.mem_singleton.mp y
    · rcases List.mem_append.mp hw with y | y
      · exact h3 v w e y
      · exact absurd (List.mem_singleton.mp y) (by simp)
  | some p =>
    cases o with
    | none =>
      refine ⟨fun e => absurd e (by simp [oadd]), fun v e => ?_, fun v w e hw => ?_⟩
      · simp only [oadd] at e
        rw [e]
        simp
      · simp only [oadd] at e
        rcases List.mem_append.mp hw with y | y
        · exact absurd (h1 rfl _ y) (by simp)
        · have := List.mem_singleton.mp y
          rw [e] at this
          exact Int.le_of_eq (Option.some.inj this).symm
    | some b =>
      by_cases z : p < b
      · have e0 : oadd (some b) (some p) = some p := by simp [oadd, z]
        rw [e0]
        refine ⟨fun e => absurd e (by simp), fun v e => by rw [← e]; simp, fun v w e hw => ?_⟩
        have e := Option.some.inj e
        rcases List.mem_append.mp hw with y | y
        · have := h3 b w rfl y
          omega
        · have := Option.some.inj (List.mem_singleton.mp y)
          omega
      · have e0 : oadd (some b) (some p) = some b := by simp [oadd, z]
        rw [e0]
        refine ⟨fun e => absurd e (by simp), fun v e => List.mem_append_left _ (h2 v e), fun v w e hw => ?_⟩
        rcases List.mem_append.mp hw with y | y
        · exact h3 v w e y
        · have := Option.some.inj (List.mem_singleton.mp y)
          have e := Option.some.inj e
          omega
theorem isMin_nil : IsMin (Option.none) [] := ⟨fun _ x hx => by simp at hx, fun v e => by simp at e, fun v w e => by simp at e⟩
theorem omin_go (l : List (Option Int)) : ∀ (pre : List (Option Int)) (o : Option Int), IsMin o pre → IsMin (l.foldl oadd o) (pre ++ l) := by
  induction l with
  | nil => intro pre o h; simpa using h
  | cons x r ih =>
    intro pre o h
    have := ih (pre ++ [x]) (oadd o x) (h.add x)
    simpa using this
theorem omin_is (l : List (Option Int)) : IsMin (omin l) l := by
  have := omin_go l [] none isMin_nil
  rwa [List.nil_append] at this
theorem omin_snoc (l : List (Option Int)) (x : Option Int) : omin (l ++ [x]) = oadd (omin l) x := by
  unfold omin
  rw [List.foldl_append]
  rfl
theorem IsMin.uniq {a b : Option Int} {l : List (Option Int)} (ha : IsMin a l) (hb : IsMin b l) : a = b := by
  cases a with
  | none =>
    cases b with
    | none => rfl
    | some w => exact absurd (ha.none rfl _ (hb.mem w rfl)) (by simp)
  | some v =>
    cases b with
    | none => exact absurd (hb.none rfl _ (ha.mem v rfl)) (by simp)
    | some w =>
      have h1 := ha.le v w rfl (hb.mem w rfl)
      have h2 := hb.le w v rfl (ha.mem v rfl)
      rw [show v = w by omega]
def chS (sums : List Int) (L : Int) (s : Stg) : List Cho := chL sums L s.1 s.2.1 s.2.2
def lsum (f : Stg → Option Int) (c : Cho) : Option Int :=
  match c.2.2 with
  | none => some c.2.1
  | some s => (f s).map (c.2.1 + ·)
def val (sums : List Int) (L : Int) : Nat → Stg → Option Int
  | 0, s => omin ((chS sums L s).map (lsum fun _ => none))
  | t + 1, s => omin ((chS sums L s).map (lsum (val sums L t)))
def V (sums : List Int) (L : Int) (s : Stg) : Option Int := val sums L (L - s.1).toNat s
def SOk (sums : List Int) (L : Int) (s : Stg) : Prop := StOk sums L s.1 s.2.1 s.2.2
def nN (sums : List Int) : Int := (sums.length : Int) - 1
/-- what a choice is -/
inductive IsCh (sums : List Int) (L d m k : Int) : Cho → Prop
  | stop {a : Int} : 0 ≤ a → a ≤ k → m + a = nN sums → (d = 0 → a = 0) → IsCh sums L d m k (a, 0, none)
  | go {a : Int} : 0 ≤ a → a < k → m + a < nN sums → (d = 0 → a = 0) → d ≠ L → IsCh sums L d m k (a, sums.getD (m + a).toNat 0, some (d + 1, m + a, if nN sums - m - a < 2 * (k - a) then nN sums - m - a else 2 * (k - a)))
theorem ch_mem {sums : List Int} {L d m k : Int} (h : StOk sums L d m k) {c : Cho} : c ∈ chL sums L d m k ↔ IsCh sums L d m k c := by
  obtain ⟨hl, hd, hm, hk⟩ := h
  have hN : nN sums = (sums.length : Int) - 1 := rfl
  constructor
  · intro hc
    obtain ⟨a, ha, e⟩ := List.mem_filterMap.mp hc
    have ha := List.mem_range.mp ha
    unfold chN at ha
    rw [← hN] at ha
    have ha2 : (a : Int) ≤ k ∧ m + a ≤ nN sums := by split at ha <;> omega
    unfold chOne at e
    rw [← hN] at e
    simp only [Bool.and_eq_true, decide_eq_true_eq] at e
    by_cases z : d = L
    · simp only [if_pos z, decide_eq_true_eq] at e
      by_cases y : (a : Int) = nN sums - m
      · rw [if_pos ⟨y, by omega⟩] at e
        rw [← Option.some.inj e]
        exact .stop (by omega) ha2.1 (by omega) (by omega)
      · rw [if_neg (fun q => y q.1), if_neg (fun q => y q.1)] at e
        exact absurd e (by simp)
    · simp only [if_neg z, Bool.or_eq_true, decide_eq_true_eq] at e
      by_cases y : 0 < d ∨ (a : Int) = 0
      · by_cases x : m + (a : Int) = nN sums
        · rw [if_pos ⟨y, x⟩] at e
          rw [← Option.some.inj e]
          exact .stop (by omega) ha2.1 x (by omega)
        · rw [if_neg (fun q => x q.2)] at e
          by_cases w : (a : Int) < k
          · rw [if_pos ⟨y, w⟩] at e
            rw [← Option.some.inj e]
            exact .go (by omega) w (by omega) (by omega) z
          · rw [if_neg (fun q => w q.2)] at e
            exact absurd e (by simp)
      · rw [if_neg (fun q => y q.1), if_neg (fun q => y q.1)] at e
        exact absurd e (by simp)
  · intro hc
    refine List.mem_filterMap.mpr ?_
    cases hc with
    | @stop a h0 h1 h2 h3 =>
      refine ⟨a.toNat, List.mem_range.mpr ?_, ?_⟩
      · unfold chN
        rw [← hN]
        split <;> omega
      · have e : ((a.toNat : Nat) : Int) = a := by omega
        unfold chOne
        rw [← hN, e]
        simp only [Bool.and_eq_true, decide_eq_true_eq]
        rw [if_pos]
        refine ⟨?_, h2⟩
        by_cases z : d = L
        · rw [if_pos z]
          exact decide_eq_true (by omega)
        · rw [if_neg z]
          simp only [Bool.or_eq_true, decide_eq_true_eq]
          omega
    | @go a h0 h1 h2 h3 h4 =>
      refine ⟨a.toNat, List.mem_range.mpr ?_, ?_⟩
      · unfold chN
        rw [← hN]
        split <;> omega
      · have e : ((a.toNat : Nat) : Int) = a := by omega
        unfold chOne
        rw [← hN, e]
        simp only [Bool.and_eq_true, decide_eq_true_eq]
        rw [if_neg (fun q => by omega), if_pos]
        refine ⟨?_, h1⟩
        rw [if_neg h4]
        simp only [Bool.or_eq_true, decide_eq_true_eq]
        omega
theorem next_ok {sums : List Int} {L d m k : Int} (h : StOk sums L d m k) {a p : Int} {s : Stg} (hc : IsCh sums L d m k (a, p, some s)) : SOk sums L s ∧ s.1 = d + 1 ∧ d < L := by
  obtain ⟨hl, hd, hm, hk⟩ := h
  cases hc with
  | go h0 h1 h2 h3 h4 =>
    have hN : nN sums = (sums.length : Int) - 1 := rfl
    refine ⟨⟨hl, ?_, ?_, ?_⟩, rfl, by omega⟩
    · show 0 ≤ d + 1 ∧ d + 1 ≤ L
      omega
    · show 0 ≤ m + a ∧ m + a < _
      omega
    · show 1 ≤ if nN sums - m - a < 2 * (k - a) then nN sums - m - a else 2 * (k - a)
      split <;> omega
theorem lsum_congr {f g : Stg → Option Int} {c : Cho} (h : ∀ s, c.2.2 = some s → f s = g s) : lsum f c = lsum g c := by
  unfold lsum
  cases e : c.2.2 with
  | none => rfl
  | some s => simp only [h s e]
theorem V_eq {sums : List Int} {L : Int} {s : Stg} (h : SOk sums L s) : V sums L s = omin ((chS sums L s).map (lsum (V sums L))) := by
  have hm : ∀ c ∈ chS sums L s, ∀ s', c.2.2 = some s' → s'.1 = s.1 + 1 ∧ s.1 < L := fun c hc s' e => by
    obtain ⟨a, p, nx⟩ := c
    have hc := (ch_mem h).mp hc
    have e : nx = some s' := e
    subst e
    exact (next_ok h hc).2
  have hd := h.d
  unfold V
  generalize ht : (L - s.1).toNat = t
  cases t with
  | zero =>
    unfold val
    congr 1
    refine List.map_congr_left fun c hc => lsum_congr fun s' e => ?_
    have := hm c hc s' e
    omega
  | succ t =>
    rw [val]
    congr 1
    refine List.map_congr_left fun c hc => lsum_congr fun s' e => ?_
    have := hm c hc s' e
    rw [show (L - s'.1).toNat = t by omega]
theorem S_get (vs : List Int) : ∀ m, m ≤ vs.length → (restL vs).getD m 0 = S vs m := by
  induction vs with
  | nil => intro m h; simp at h; subst h; rfl
  | cons v r ih =>
    intro m h
    cases m with
    | zero =>
      have := ih 0 (by omega)
      rw [restL_get0] at this
      show v + (restL r).headD 0 = _
      rw [this]
      simp [S]
    | succ m =>
      have := ih m (by simpa using h)
      show (restL r).getD m 0 = _
      rw [this]
      simp [S]
section
variable {vs : List Int} {L : Nat}
def st (d m k : Nat) : Stg := ((d : Int), (m : Int), (k : Int))
theorem nN_rest (vs : List Int) : nN (restL vs) = vs.length := by
  unfold nN; rw [restL_len]; push_cast; omega
theorem sok {d m k : Nat} (hL : 1 ≤ L) (hd : d ≤ L) (hm : m < vs.length) (hk : 1 ≤ k) : SOk (restL vs) L (st d m k) := by
  refine ⟨by omega, ?_, ?_, ?_⟩
  · show (0 : Int) ≤ d ∧ (d : Int) ≤ L
    omega
  · show (0 : Int) ≤ m ∧ (m : Int) < ((restL vs).length : Int) - 1
    rw [restL_len]
    omega
  · show (1 : Int) ≤ k
    omega
theorem mn (x y : Nat) : (if (x : Int) < (y : Int) then (x : Int) else (y : Int)) = ((min y x : Nat) : Int) := by
  split <;> omega
theorem ch_stop {d m k a : Nat} (h1 : a ≤ k) (h2 : m + a = vs.length) (h3 : d = 0 → a = 0) : IsCh (restL vs) L d m k ((a : Int), 0, none) :=
  .stop (by omega) (by omega) (by rw [nN_rest]; omega) (by omega)
theorem ch_go {d m k a : Nat} (h1 : a < k) (h2 : m + a < vs.length) (h3 : d = 0 → a = 0) (h4 : d < L) : IsCh (restL vs) L d m k ((a : Int), S vs (m + a), some (st (d + 1) (m + a) (min (2 * (k - a)) (vs.length - m - a)))) := by
  have h := IsCh.go (sums := restL vs) (L := L) (d := d) (m := m) (k := k) (a := (a : Int)) (by omega) (by omega) (by rw [nN_rest]; omega) (by omega) (by omega)
  have e1 : ((m : Int) + (a : Int)).toNat = m + a := by omega
  have e2 : (vs.length : Int) - m - a = ((vs.length - m - a : Nat) : Int) := by omega
  have e3 : 2 * ((k : Int) - a) = ((2 * (k - a) : Nat) : Int) := by omega
  rw [nN_rest, e1, S_get _ _ (by omega), e2, e3, mn] at h
  have e4 : st (d + 1) (m + a) (min (2 * (k - a)) (vs.length - m - a)) = ((d : Int) + 1, (m : Int) + a, ((min (2 * (k - a)) (vs.length - m - a) : Nat) : Int)) := by
    unfold st
    push_cast
    rfl
  rw [e4]
  exact h
/-- a value is not above what any path costs -/
theorem val_le (hL : 1 ≤ L) {d m k : Nat} {as : List Nat} {c : Int} (h : Pth vs L d m k as c) : m < vs.length → 1 ≤ k → ∃ v, V (restL vs) L (st d m k) = some v ∧ v ≤ c := by
  induction h with
  | @stop d m k a hd hz ha hak =>
    intro hm hk
    have ok := sok (vs := vs) hL hd hm hk
    have hc : ((a : Int), (0 : Int), (none : Nxt)) ∈ chS (restL vs) L (st d m k) := (ch_mem ok).mpr (ch_stop hak ha hz)
    rw [V_eq ok]
    have hi := omin_is ((chS (restL vs) L (st d m k)).map (lsum (V (restL vs) L)))
    have hmem : some (0 : Int) ∈ (chS (restL vs) L (st d m k)).map (lsum (V (restL vs) L)) := List.mem_map.mpr ⟨_, hc, rfl⟩
    cases e : omin ((chS (restL vs) L (st d m k)).map (lsum (V (restL vs) L))) with
    | none => exact absurd (hi.none e _ hmem) (by simp)
    | some v => exact ⟨v, rfl, hi.le v 0 e hmem⟩
  | @go d m k a as c hd hz ha hak hp ih =>
    intro hm hk
    have ok := sok (vs := vs) hL (Nat.le_of_lt hd) hm hk
    obtain ⟨v, hv, hvc⟩ := ih ha (by omega)
    have hc := (ch_mem ok).mpr (ch_go (L := L) hak ha hz hd)
    rw [V_eq ok]
    have hi := omin_is ((chS (restL vs) L (st d m k)).map (lsum (V (restL vs) L)))
    have hmem : some (S vs (m + a) + v) ∈ (chS (restL vs) L (st d m k)).map (lsum (V (restL vs) L)) := List.mem_map.mpr ⟨_, hc, by simp only [lsum, hv]; rfl⟩
    cases e : omin ((chS (restL vs) L (st d m k)).map (lsum (V (restL vs) L))) with
    | none => exact absurd (hi.none e _ hmem) (by simp)
    | some w => exact ⟨w, rfl, by have := hi.le w _ e hmem; omega⟩
/-- the choice of the rule: the last one with the least sum -/
def pick (sums : List Int) (L : Int) (s : Stg) : Option Cho := ((chS sums L s).filter fun c => decide (lsum (V sums L) c = V sums L s)).getLast?
theorem pick_some {sums : List Int} {L : Int} {s : Stg} (h : SOk sums L s) {v : Int} (hv : V sums L s = some v) : ∃ c, pick sums L s = some c ∧ c ∈ chS sums L s ∧ lsum (V sums L) c = some v := by
  have hi := omin_is ((chS sums L s).map (lsum (V sums L)))
  rw [← V_eq h] at hi
  obtain ⟨c, hc, e⟩ := List.mem_map.mp (hi.mem v hv)
  have hf : c ∈ (chS sums L s).filter fun c => decide (lsum (V sums L) c = V sums L s) := List.mem_filter.mpr ⟨hc, decide_eq_true (by rw [e, hv])⟩
  cases e2 : ((chS sums L s).filter fun c => decide (lsum (V sums L) c = V sums L s)).getLast? with
  | none => rw [List.getLast?_eq_none_iff.mp e2] at hf; simp at hf
  | some c' =>
    have hm := List.mem_of_getLast? e2
    obtain ⟨m1, m2⟩ := List.mem_filter.mp hm
    have m2 := of_decide_eq_true m2
    exact ⟨c', e2, m1, by rw [m2, hv]⟩
/-- the choices of the rule, one after the other -/
def due (sums : List Int) (L : Int) : Nat → Stg → List Nat
  | 0, _ => []
  | t + 1, s =>
    match pick sums L s with
    | none => []
    | some c =>
      match c.2.2 with
      | none => [c.1.toNat]
      | some s' => c.1.toNat :: due sums L t s'
theorem due_path (hL : 1 ≤ L) : ∀ (t d m k : Nat) (v : Int), L - d < t → d ≤ L → m < vs.length → 1 ≤ k → V (restL vs) L (st d m k) = some v → Pth vs L d m k (due (restL vs) L t (st d m k)) v := by
  intro t
  induction t with
  | zero => intro d m k v h; omega
  | succ t ih =>
    intro d m k v ht hd hm hk hv
    have ok := sok (vs := vs) hL hd hm hk
    obtain ⟨c, hp, hc, hs⟩ := pick_some ok hv
    have hc := (ch_mem ok).mp hc
    rw [due, hp]
    simp only
    cases hc with
    | @stop a h0 h1 h2 h3 =>
      rw [nN_rest] at h2
      have : v = 0 := (Option.some.inj hs).symm
      subst this
      refine .stop hd (fun z => ?_) ?_ ?_
      · have : (st d m k).1 = 0 := by show (d : Int) = 0; omega
        have := h3 this
        show a.toNat = 0
        omega
      · have : (st d m k).2.1 = m := rfl
        show m + a.toNat = _
        omega
      · have : (st d m k).2.2 = k := rfl
        show a.toNat ≤ k
        omega
    | @go a h0 h1 h2 h3 h4 =>
      have e1 : (st d m k).1 = d := rfl
      have e2 : (st d m k).2.1 = m := rfl
      have e3 : (st d m k).2.2 = k := rfl
      rw [nN_rest, e2] at h2
      rw [e3] at h1
      rw [e1] at h3 h4
      obtain ⟨b, rfl⟩ : ∃ b : Nat, a = b := ⟨a.toNat, by omega⟩
      have h5 := ch_go (vs := vs) (L := L) (d := d) (m := m) (k := k) (a := b) (by omega) (by omega) (by omega) (by omega)
      have e5 : ((restL vs).getD (m + (b : Int)).toNat 0) = S vs (m + b) := by
        rw [show ((m : Int) + (b : Int)).toNat = m + b by omega, S_get _ _ (by omega)]
      have e6 : (((d : Int) + 1, (m : Int) + b, if (vs.length : Int) - m - b < 2 * ((k : Int) - b) then (vs.length : Int) - m - b else 2 * ((k : Int) - b)) : Stg) = st (d + 1) (m + b) (min (2 * (k - b)) (vs.length - m - b)) := by
        have e2 : (vs.length : Int) - m - b = ((vs.length - m - b : Nat) : Int) := by omega
        have e3 : 2 * ((k : Int) - b) = ((2 * (k - b) : Nat) : Int) := by omega
        rw [e2, e3, mn]
        unfold st
        push_cast
        rfl
      simp only [lsum, e1, e2, e3, nN_rest, e5, e6] at hs
      simp only [e1, e2, e3, nN_rest, e6]
      cases hv2 : V (restL vs) L (st (d + 1) (m + b) (min (2 * (k - b)) (vs.length - m - b))) with
      | none => rw [hv2] at hs; simp at hs
      | some w =>
        rw [hv2] at hs
        have hs : S vs (m + b) + w = v := Option.some.inj hs
        rw [← hs]
        exact .go (by omega) (fun z => by omega) (by omega) (by omega) (ih _ _ _ _ (by omega) (by omega) (by omega) (by omega) hv2)
end
end M04
set_option linter.all false
/-! The mathematics of prefix codes: lengths, room, canonical words. -/
namespace M01
def lnA (ls : List Int) (k : Nat) : Nat := (ls.getD k 0).toNat
/-- lengths from 0 to 20 -/
def Lok (ls : List Int) : Prop := ∀ x ∈ ls, 0 ≤ x ∧ x ≤ 20
def share (x : Int) : Int := if x = 0 then 0 else (2 : Int) ^ (20 - x.toNat)
def kraft (ls : List Int) : Int := (ls.map share).sum
def roomL (ls : List Int) : Int := 1048576 - kraft ls
theorem kraft_app (a b : List Int) : kraft (a ++ b) = kraft a + kraft b := by
  unfold kraft
  rw [List.map_append, List.sum_append]
theorem pow_nn (n : Nat) : (0 : Int) ≤ 2 ^ n := Int.le_of_lt (Int.pow_pos (by decide))
theorem share_nn (x : Int) : 0 ≤ share x := by
  unfold share
  split
  · exact Int.le_refl _
  · exact pow_nn _
theorem pow20 : ∀ l : Nat, l ≤ 20 → (1048576 : Int) / (1 * 2 ^ l) = 2 ^ (20 - l) := fun l h => by
  have : ∀ l : Fin 21, (1048576 : Int) / (1 * 2 ^ l.val) = 2 ^ (20 - l.val) := by decide
  exact this ⟨l, by omega⟩
theorem share_bd (x : Int) : share x ≤ 1048576 := by
  unfold share
  split
  · decide
  · have : ∀ y : Fin 21, (2 : Int) ^ y.val ≤ 1048576 := by decide
    exact this ⟨20 - x.toNat, by omega⟩
theorem kraft_zero : ∀ ls : List Int, (∀ x ∈ ls, x = 0) → kraft ls = 0
  | [], _ => rfl
  | x :: r, h => by
    have h1 := kraft_zero r fun y hy => h y (List.mem_cons_of_mem _ hy)
    have h2 := h x List.mem_cons_self
    subst h2
    show share 0 + kraft r = 0
    rw [h1]
    rfl
/-! ### the order: by length, then by symbol -/
def Lx (ls : List Int) (k j : Nat) : Prop := lnA ls k < lnA ls j ∨ (lnA ls k = lnA ls j ∧ k < j)
theorem Lx.irrefl {ls : List Int} {k : Nat} (h : Lx ls k k) : False := by
  unfold Lx at h; omega
theorem Lx.asymm {ls : List Int} {k j : Nat} (h : Lx ls k j) (h2 : Lx ls j k) : False := by
  unfold Lx at h h2; omega
theorem uniq (ls : List Int) : ∀ (a b : List Nat), a.Pairwise (Lx ls) → b.Pairwise (Lx ls) → (∀ k, k ∈ a ↔ k ∈ b) → a = b
  | [], [], _, _, _ => rfl
  | [], y :: b, _, _, h => absurd ((h y).mpr List.mem_cons_self) (by simp)
  | x :: a, [], _, _, h => absurd ((h x).mp List.mem_cons_self) (by simp)
  | x :: a, y :: b, ha, hb, h => by
    have ha' := List.pairwise_cons.mp ha
    have hb' := List.pairwise_cons.mp hb
    have e : x = y := by
      rcases List.mem_cons.mp ((h x).mp List.mem_cons_self) with e | e
      · exact e
      · rcases List.mem_cons.mp ((h y).mpr List.mem_cons_self) with e2 | e2
        · exact e2.symm
        · exact (Lx.asymm (hb'.1 x e) (ha'.1 y e2)).elim
    subst e
    rw [uniq ls a b ha'.2 hb'.2 fun k => ?_]
    constructor
    · intro hk
      rcases List.mem_cons.mp ((h k).mp (List.mem_cons_of_mem _ hk)) with e | e
      · subst e; exact (Lx.irrefl (ha'.1 _ hk)).elim
      · exact e
    · intro hk
      rcases List.mem_cons.mp ((h k).mpr (List.mem_cons_of_mem _ hk)) with e | e
      · subst e; exact (Lx.irrefl (hb'.1 _ hk)).elim
      · exact e
structure IsOrd (ls : List Int) (o : List Nat) : Prop where
  pw : o.Pairwise (Lx ls)
  mem : ∀ k, k ∈ o ↔ k < ls.length ∧ 0 < lnA ls k
/-- the order as far as (L, k) -/
structure Proc (ls : List Int) (L k : Nat) (o : List Nat) : Prop where
  pw : o.Pairwise (Lx ls)
  mem : ∀ s, s ∈ o ↔ s < ls.length ∧ 0 < lnA ls s ∧ (lnA ls s < L ∨ (lnA ls s = L ∧ s < k))
theorem Proc.zero (ls : List Int) : Proc ls 1 0 [] := ⟨.nil, fun s => by simp; omega⟩
theorem Proc.skip {ls : List Int} {L k : Nat} {o : List Nat} (h : Proc ls L k o) (e : lnA ls k ≠ L) : Proc ls L (k + 1) o := ⟨h.pw, fun s => by
  rw [h.mem]
  constructor
  · rintro ⟨a, b, c⟩
    exact ⟨a, b, by omega⟩
  · rintro ⟨a, b, c⟩
    refine ⟨a, b, ?_⟩
    rcases c with c | ⟨c, d⟩
    · exact .inl c
    · by_cases z : s = k
      · subst z; exact absurd c e
      · exact .inr ⟨c, by omega⟩⟩
theorem Proc.add {ls : List Int} {L k : Nat} {o : List Nat} (h : Proc ls L k o) (e : lnA ls k = L) (hL : 0 < L) (hk : k < ls.length) : Proc ls L (k + 1) (o ++ [k]) ∧ k ∉ o := by
  have hn : k ∉ o := fun z => by have := (h.mem k).mp z; omega
  refine ⟨⟨List.pairwise_append.mpr ⟨h.pw, List.pairwise_singleton _ _, fun a ha b hb => ?_⟩, fun s => ?_⟩, hn⟩
  · rw [List.mem_singleton.mp hb]
    have := (h.mem a).mp ha
    unfold Lx
    omega
  · rw [List.mem_append, h.mem, List.mem_singleton]
    constructor
    · rintro (⟨a, b, c⟩ | rfl)
      · exact ⟨a, b, by omega⟩
      · exact ⟨hk, by omega, by omega⟩
    · rintro ⟨a, b, c⟩
      by_cases z : s = k
      · exact .inr z
      · exact .inl ⟨a, b, by omega⟩
theorem Proc.next {ls : List Int} {L : Nat} {o : List Nat} (h : Proc ls L ls.length o) : Proc ls (L + 1) 0 o := ⟨h.pw, fun s => by
  rw [h.mem]
  constructor
  · rintro ⟨a, b, c⟩
    exact ⟨a, b, by omega⟩
  · rintro ⟨a, b, c⟩
    exact ⟨a, b, by omega⟩⟩
theorem ln_le {ls : List Int} (h : Lok ls) (k : Nat) : lnA ls k ≤ 20 := by
  unfold lnA
  by_cases hk : k < ls.length
  · have := h _ (List.getElem_mem hk)
    rw [List.getD_eq_getElem?_getD, List.getElem?_eq_getElem hk]
    show (ls[k]).toNat ≤ 20
    omega
  · rw [List.getD_eq_getElem?_getD, List.getElem?_eq_none (by omega)]
    decide
theorem Proc.whole {ls : List Int} {o : List Nat} (hl : Lok ls) (h : Proc ls 21 0 o) : IsOrd ls o := ⟨h.pw, fun s => by
  rw [h.mem]
  have := ln_le hl s
  constructor
  · rintro ⟨a, b, c⟩
    exact ⟨a, b⟩
  · rintro ⟨a, b⟩
    exact ⟨a, b, by omega⟩⟩
theorem IsOrd.uniq {ls : List Int} {a b : List Nat} (ha : IsOrd ls a) (hb : IsOrd ls b) : a = b := M01.uniq ls a b ha.pw hb.pw fun k => (ha.mem k).trans (hb.mem k).symm
/-! ### words -/
def bitsL (x l : Nat) : List Int := (List.range l).map fun j => ((x / 2 ^ (l - 1 - j) % 2 : Nat) : Int)
theorem bits_len (x l : Nat) : (bitsL x l).length = l := by simp [bitsL]
def xs (ls : List Int) (o : List Nat) : Nat := (o.map fun s => 2 ^ (20 - lnA ls s)).sum
theorem xs_snoc (ls : List Int) (o : List Nat) (s : Nat) : xs ls (o ++ [s]) = xs ls o + 2 ^ (20 - lnA ls s) := by
  unfold xs
  rw [List.map_append, List.sum_append]
  simp
def wd (ls : List Int) (o : List Nat) (s : Nat) : List Int := bitsL (xs ls o / 2 ^ (20 - lnA ls s)) (lnA ls s)
def upTo (o : List Nat) (k : Nat) : List Nat := o.takeWhile fun x => decide (x ≠ k)
theorem upTo_app {o : List Nat} {k s : Nat} (h : k ∈ o) : upTo (o ++ [s]) k = upTo o k := by
  unfold upTo
  induction o with
  | nil => simp at h
  | cons x r ih =>
    by_cases e : x = k
    · subst e
      simp
    · have h' : k ∈ r := by
        rcases List.mem_cons.mp h with z | z
        · exact absurd z.symm e
        · exact z
      simp only [List.cons_append]
      rw [List.takeWhile_cons_of_pos (by simpa using e), List.takeWhile_cons_of_pos (by simpa using e), ih h']
theorem upTo_new {o : List Nat} {s : Nat} (h : s ∉ o) : upTo (o ++ [s]) s = o := by
  unfold upTo
  induction o with
  | nil => simp
  | cons x r ih =>
    have hx : x ≠ s := fun z => h (by rw [z]; exact List.mem_cons_self)
    simp only [List.cons_append]
    rw [List.takeWhile_cons_of_pos (by simpa using hx), ih fun z => h (List.mem_cons_of_mem _ z)]
def ent (ls : List Int) (o : List Nat) (k : Nat) : Option (List Int) := if k ∈ o then some (wd ls (upTo o k) k) else none
def tabOf (ls : List Int) (o : List Nat) : List (Option (List Int)) := (List.range ls.length).map (ent ls o)
theorem tab_len (ls : List Int) (o : List Nat) : (tabOf ls o).length = ls.length := by simp [tabOf]
theorem tab_at {ls : List Int} {o : List Nat} {k : Nat} (h : k < ls.length) : (tabOf ls o)[k]? = some (ent ls o k) := by
  unfold tabOf
  rw [List.getElem?_map, List.getElem?_range h]
  rfl
theorem tab_nil (ls : List Int) : tabOf ls [] = List.replicate ls.length none := by
  refine List.ext_getElem? fun k => ?_
  by_cases h : k < ls.length
  · rw [tab_at h, List.getElem?_replicate, if_pos h]
    rfl
  · rw [List.getElem?_eq_none (by rw [tab_len]; omega), List.getElem?_eq_none (by rw [List.length_replicate]; omega)]
theorem ent_add {ls : List Int} {o : List Nat} {s k : Nat} (hs : s ∉ o) : ent ls (o ++ [s]) k = if k = s then some (wd ls o s) else ent ls o k := by
  unfold ent
  by_cases e : k = s
  · subst e
    rw [if_pos (List.mem_append_right _ (List.mem_singleton.mpr rfl)), if_pos rfl, upTo_new hs]
  · rw [if_neg e]
    by_cases h : k ∈ o
    · rw [if_pos (List.mem_append_left _ h), if_pos h, upTo_app h]
    · rw [if_neg fun z => ?_, if_neg h]
      rcases List.mem_append.mp z with z | z
      · exact h z
      · exact e (List.mem_singleton.mp z)
/-! ### no word begins another one -/
theorem nodup_sum (f : Nat → Nat) : ∀ (l m : List Nat), l.Nodup → (∀ x ∈ l, x ∈ m) → (l.map f).sum ≤ (m.map f).sum
  | [], _, _, _ => Nat.zero_le _
  | x :: l, m, h, hs => by
    have h' := List.nodup_cons.mp h
    have hx := hs x List.mem_cons_self
    have h1 := nodup_sum f l (m.erase x) h'.2 fun y hy => (List.mem_erase_of_ne (fun e => h'.1 (by rw [← e]; exact hy))).mpr (hs y (List.mem_cons_of_mem _ hy))
    have h2 := ((List.perm_cons_erase hx).map f).sum_nat
    rw [h2]
    simp only [List.map_cons, List.sum_cons]
    omega
theorem IsOrd.nodup {ls : List Int} {o : List Nat} (h : IsOrd ls o) : o.Nodup := h.pw.imp fun {a b} h e => by subst e; exact h.irrefl
theorem kraft_sum : ∀ ls : List Int, (∀ x ∈ ls, 0 ≤ x) → (((List.range ls.length).map fun k => if lnA ls k = 0 then 0 else 2 ^ (20 - lnA ls k)).sum : Nat) = kraft ls
  | [], _ => rfl
  | x :: r, h => by
    have ih := kraft_sum r fun y hy => h y (List.mem_cons_of_mem _ hy)
    have hx := h x List.mem_cons_self
    rw [List.length_cons, List.range_succ_eq_map, List.map_cons, List.map_map, List.sum_cons]
    have e : (fun k => if lnA (x :: r) k = 0 then 0 else 2 ^ (20 - lnA (x :: r) k)) ∘ Nat.succ = fun k => if lnA r k = 0 then 0 else 2 ^ (20 - lnA r k) := by
      funext k
      rfl
    rw [e, Int.natCast_add, ih]
    show _ = share x + kraft r
    congr 1
    show (((if x.toNat = 0 then 0 else 2 ^ (20 - x.toNat)) : Nat) : Int) = share x
    unfold share
    by_cases z : x = 0
    · subst z; rfl
    · rw [if_neg (by omega), if_neg z]
      simp
theorem xs_le {ls : List Int} {o : List Nat} (hl : Lok ls) (h : IsOrd ls o) : (xs ls o : Int) ≤ kraft ls := by
  rw [← kraft_sum ls fun x hx => (hl x hx).1]
  have h1 := nodup_sum (fun k => if lnA ls k = 0 then 0 else 2 ^ (20 - lnA ls k)) o (List.range ls.length) h.nodup fun x hx => List.mem_range.mpr ((h.mem x).mp hx).1
  have h2 : (o.map fun k => if lnA ls k = 0 then 0 else 2 ^ (20 - lnA ls k)) = o.map fun s => 2 ^ (20 - lnA ls s) := by
    refine List.map_congr_left fun k hk => ?_
    have := ((h.mem k).mp hk).2
    rw [if_neg (by omega)]
  rw [h2] at h1
  unfold xs
  exact_mod_cast h1
theorem bits_mod (x y : Nat) : ∀ l, (∀ i, i < l → x / 2 ^ i % 2 = y / 2 ^ i % 2) → x % 2 ^ l = y % 2 ^ l
  | 0, _ => by rw [Nat.pow_zero, Nat.mod_one, Nat.mod_one]
  | l + 1, h => by
    rw [Nat.pow_succ, Nat.mod_mul, Nat.mod_mul, bits_mod x y l fun i hi => h i (by omega), h l (by omega)]
theorem bits_inj {x y l : Nat} (hx : x < 2 ^ l) (hy : y < 2 ^ l) (h : bitsL x l = bitsL y l) : x = y := by
  have h1 := bits_mod x y l fun i hi => by
    have h2 := congrArg (fun z => z[l - 1 - i]?) h
    have h3 : l - 1 - (l - 1 - i) = i := by omega
    simp only [bitsL, List.getElem?_map, List.getElem?_range (show l - 1 - i < l by omega), Option.map_some, h3, Option.some.injEq] at h2
    exact_mod_cast h2
  rwa [Nat.mod_eq_of_lt hx, Nat.mod_eq_of_lt hy] at h1
theorem bits_take {x l m : Nat} (h : m ≤ l) : (bitsL x l).take m = bitsL (x / 2 ^ (l - m)) m := by
  refine List.ext_getElem? fun j => ?_
  by_cases hj : j < m
  · rw [List.getElem?_take_of_lt hj]
    simp only [bitsL, List.getElem?_map, List.getElem?_range (show j < l by omega), List.getElem?_range hj, Option.map_some, Nat.div_div_eq_div_mul, ← Nat.pow_add]
    have : l - m + (m - 1 - j) = l - 1 - j := by omega
    rw [this]
  · rw [List.getElem?_eq_none (by rw [List.length_take, bits_len]; omega), List.getElem?_eq_none (by rw [bits_len]; omega)]
/-- where a symbol stands in the order -/
theorem split_at {o : List Nat} {k : Nat} (h : k ∈ o) : ∃ r, o = upTo o k ++ k :: r := by
  unfold upTo
  induction o with
  | nil => simp at h
  | cons x t ih =>
    by_cases e : x = k
    · subst e
      exact ⟨t, by simp⟩
    · have h' : k ∈ t := by
        rcases List.mem_cons.mp h with z | z
        · exact absurd z.symm e
        · exact z
      obtain ⟨r, hr⟩ := ih h'
      refine ⟨r, ?_⟩
      rw [List.takeWhile_cons_of_pos (by simpa using e), List.cons_append, ← hr]
theorem xs_app (ls : List Int) (a b : List Nat) : xs ls (a ++ b) = xs ls a + xs ls b := by
  unfold xs
  rw [List.map_append, List.sum_append]
theorem upTo_mem {o : List Nat} {k x : Nat} (h : x ∈ upTo o k) : x ∈ o := (List.takeWhile_sublist _).subset h
theorem pos_lt {ls : List Int} {o : List Nat} (hl : Lok ls) (h : IsOrd ls o) (hk : kraft ls ≤ 1048576) {k : Nat} (hm : k ∈ o) : xs ls (upTo o k) + 2 ^ (20 - lnA ls k) ≤ 2 ^ 20 := by
  obtain ⟨r, e⟩ := split_at hm
  have h1 := xs_le hl h
  have h2 : xs ls o = xs ls (upTo o k) + (2 ^ (20 - lnA ls k) + xs ls r) := by
    rw (occs := .pos [1]) [e]
    rw [xs_app]
    simp [xs]
  have h3 : ((xs ls o : Nat) : Int) ≤ 1048576 := by omega
  have h4 : xs ls o ≤ 1048576 := by omega
  have h5 : (2 : Nat) ^ 20 = 1048576 := by decide
  omega
theorem before {ls : List Int} {o : List Nat} (h : IsOrd ls o) {a b : Nat} (ha : a ∈ o) (hb : b ∈ o) (hab : Lx ls a b) : xs ls (upTo o a) + 2 ^ (20 - lnA ls a) ≤ xs ls (upTo o b) := by
  obtain ⟨r, e⟩ := split_at hb
  have ham : a ∈ upTo o b := by
    have h1 : a ∈ upTo o b ++ b :: r := by rw [← e]; exact ha
    rcases List.mem_append.mp h1 with z | z
    · exact z
    · exfalso
      rcases List.mem_cons.mp z with z | z
      · subst z; exact hab.irrefl
      · have h2 := h.pw
        rw [e] at h2
        have h3 := (List.pairwise_cons.mp (List.pairwise_append.mp h2).2.1).1 a z
        exact hab.asymm h3
  obtain ⟨r2, e2⟩ := split_at ham
  have h5 : upTo (upTo o b) a = upTo o a := by
    rw (occs := .pos [2]) [e]
    have : ∀ (t u : List Nat), a ∈ t → upTo (t ++ u) a = upTo t a := fun t u ht => by
      clear e2 ham e h ha hb hab
      unfold upTo
      induction t with
      | nil => simp at ht
      | cons x t ih =>
        by_cases q : x = a
        · subst q; simp
        · have h' : a ∈ t := by
            rcases List.mem_cons.mp ht with z | z
            · exact absurd z.symm q
            · exact z
          simp only [List.cons_append]
          rw [List.takeWhile_cons_of_pos (by simpa using q), List.takeWhile_cons_of_pos (by simpa using q), ih h']
    exact (this _ _ ham).symm
  rw [e2, h5, xs_app]
  have : xs ls (a :: r2) = 2 ^ (20 - lnA ls a) + xs ls r2 := by simp [xs]
  omega
theorem Lx.total {ls : List Int} {k j : Nat} (h : k ≠ j) : Lx ls k j ∨ Lx ls j k := by
  unfold Lx; omega
theorem clash {ls : List Int} {o : List Nat} (hl : Lok ls) (h : IsOrd ls o) (hk : kraft ls ≤ 1048576) {a b : Nat} (ha : a ∈ o) (hb : b ∈ o) (hab : Lx ls a b) (hle : lnA ls a ≤ lnA ls b) : (wd ls (upTo o b) b).take (lnA ls a) ≠ wd ls (upTo o a) a := by
  intro e
  have l1 := ln_le hl a
  have l2 := ln_le hl b
  unfold wd at e
  rw [bits_take hle, Nat.div_div_eq_div_mul, ← Nat.pow_add] at e
  have e1 : 20 - lnA ls b + (lnA ls b - lnA ls a) = 20 - lnA ls a := by omega
  rw [e1] at e
  have p1 := pos_lt hl h hk ha
  have p2 := pos_lt hl h hk hb
  have b1 := before h ha hb hab
  have hp : 0 < 2 ^ (20 - lnA ls a) := Nat.pow_pos (by decide)
  have hp2 : 0 < 2 ^ (20 - lnA ls b) := Nat.pow_pos (by decide)
  have hm : (2 : Nat) ^ 20 = 2 ^ lnA ls a * 2 ^ (20 - lnA ls a) := by rw [← Nat.pow_add]; congr 1; omega
  have q1 : xs ls (upTo o b) / 2 ^ (20 - lnA ls a) < 2 ^ lnA ls a := (Nat.div_lt_iff_lt_mul hp).mpr (by omega)
  have q2 : xs ls (upTo o a) / 2 ^ (20 - lnA ls a) < 2 ^ lnA ls a := (Nat.div_lt_iff_lt_mul hp).mpr (by omega)
  have e2 := bits_inj q1 q2 e
  have q3 : (xs ls (upTo o a) + 2 ^ (20 - lnA ls a)) / 2 ^ (20 - lnA ls a) ≤ xs ls (upTo o b) / 2 ^ (20 - lnA ls a) := Nat.div_le_div_right b1
  rw [Nat.add_div_right _ hp] at q3
  omega
/-- no word is the beginning of another one -/
theorem free {ls : List Int} {o : List Nat} (hl : Lok ls) (h : IsOrd ls o) (hk : kraft ls ≤ 1048576) {a b : Nat} (ha : a ∈ o) (hb : b ∈ o) (hab : a ≠ b) : (wd ls (upTo o b) b).take (lnA ls a) ≠ wd ls (upTo o a) a := by
  rcases Lx.total (ls := ls) hab with z | z
  · exact clash hl h hk ha hb z (by unfold Lx at z; omega)
  · intro e
    have hle : lnA ls b ≤ lnA ls a := by unfold Lx at z; omega
    have h1 : (wd ls (upTo o b) b).length = lnA ls b := bits_len _ _
    have h2 : (wd ls (upTo o a) a).length = lnA ls a := bits_len _ _
    have h3 := congrArg List.length e
    rw [List.length_take, h1, h2] at h3
    have h4 : lnA ls a = lnA ls b := by omega
    have h5 := clash hl h hk hb ha z hle
    apply h5
    rw [← h4, List.take_of_length_le (by rw [h2]; exact Nat.le_refl _), ← e, h4, List.take_of_length_le (by rw [h1]; exact Nat.le_refl _)]
end M01
set_option linter.all false
set_option exponentiation.threshold 2048
/-! Lengths by symbol, their cost, and the least of all lists. -/
namespace M04
open M03
def wr (acc : List Int) (d : Nat) (syms : List Nat) : List Int := syms.foldl (fun acc s => acc.set s (d : Int)) acc
def scat (ord : List Nat) : Nat → Nat → List Nat → List Int → List Int
  | _, _, [], acc => acc
  | d, m, a :: as, acc => scat ord (d + 1) (m + a) as (wr acc d ((ord.drop m).take a))
def setAll : List Int → List Nat → List Nat → List Int
  | acc, x :: xs, l :: ls => setAll (acc.set x (l : Int)) xs ls
  | acc, _, _ => acc
theorem setAll_rep (d : Nat) (ys ls : List Nat) : ∀ (xs : List Nat) (acc : List Int), setAll acc (xs ++ ys) (List.replicate xs.length d ++ ls) = setAll (wr acc d xs) ys ls
  | [], acc => by simp [wr]
  | x :: xs, acc => by
    rw [List.length_cons, List.replicate_succ]
    exact setAll_rep d ys ls xs (acc.set x d)
theorem setAll_nil (acc : List Int) : ∀ xs, setAll acc xs [] = acc
  | [] => rfl
  | _ :: _ => rfl
theorem scat_set (ord : List Nat) : ∀ (as : List Nat) (d m : Nat) (acc : List Int), m + as.sum ≤ ord.length → scat ord d m as acc = setAll acc (ord.drop m) (lensF d as)
  | [], d, m, acc, _ => (setAll_nil acc _).symm
  | a :: as, d, m, acc, h => by
    rw [List.sum_cons] at h
    have ih := scat_set ord as (d + 1) (m + a) (wr acc d ((ord.drop m).take a)) (by omega)
    show scat ord (d + 1) (m + a) as _ = setAll acc (ord.drop m) (List.replicate a d ++ lensF (d + 1) as)
    rw [ih]
    have e := setAll_rep d (ord.drop (m + a)) (lensF (d + 1) as) ((ord.drop m).take a) acc
    have e1 : (ord.drop m).take a ++ ord.drop (m + a) = ord.drop m := by
      rw [← List.drop_drop]
      exact List.take_append_drop a (ord.drop m)
    have e2 : ((ord.drop m).take a).length = a := by
      rw [List.length_take, List.length_drop]; omega
    rw [e1, e2] at e
    exact e.symm
theorem lensF_len : ∀ (as : List Nat) (d : Nat), (lensF d as).length = as.sum
  | [], d => rfl
  | a :: as, d => by
    show (List.replicate a d ++ lensF (d + 1) as).length = _
    rw [List.length_append, List.length_replicate, lensF_len as, List.sum_cons]
theorem setAll_len : ∀ (xs ls : List Nat) (acc : List Int), (setAll acc xs ls).length = acc.length
  | [], ls, acc => by cases ls <;> rfl
  | x :: xs, [], acc => rfl
  | x :: xs, l :: ls, acc => by
    show (setAll _ xs ls).length = _
    rw [setAll_len xs ls, List.length_set]
theorem setAll_off : ∀ (xs ls : List Nat) (acc : List Int) (y : Nat), y ∉ xs → (setAll acc xs ls).getD y 0 = acc.getD y 0
  | [], ls, acc, y, _ => by cases ls <;> rfl
  | x :: xs, [], acc, y, _ => rfl
  | x :: xs, l :: ls, acc, y, h => by
    show (setAll _ xs ls).getD y 0 = _
    have hx : x ≠ y := fun e => h (by simp [e])
    rw [setAll_off xs ls _ y fun z => h (by simp [z]), List.getD_eq_getElem?_getD, List.getElem?_set_ne hx, ← List.getD_eq_getElem?_getD]
theorem setAll_on : ∀ (xs ls : List Nat) (acc : List Int), xs.Nodup → (∀ x ∈ xs, x < acc.length) → xs.length = ls.length → xs.map (fun x => (setAll acc xs ls).getD x 0) = ls.map fun (l : Nat) => (l : Int)
  | [], [], acc, _, _, _ => rfl
  | [], _ :: _, acc, _, _, h => by simp at h
  | _ :: _, [], acc, _, _, h => by simp at h
  | x :: xs, l :: ls, acc, hn, hl, h => by
    have hn' := List.nodup_cons.mp hn
    have e : setAll acc (x :: xs) (l :: ls) = setAll (acc.set x (l : Int)) xs ls := rfl
    have ih := setAll_on xs ls (acc.set x (l : Int)) hn'.2 (fun y hy => by rw [List.length_set]; exact hl y (by simp [hy])) (by simpa using h)
    rw [e, List.map_cons, List.map_cons, ih, setAll_off xs ls _ x hn'.1]
    have hx := hl x (by simp)
    congr 1
    rw [List.getD_eq_getElem?_getD, List.getElem?_set_self hx]
    rfl
theorem sum_perm {a b : List Int} (h : a.Perm b) : a.sum = b.sum := by
  induction h with
  | nil => rfl
  | cons x _ ih => rw [List.sum_cons, List.sum_cons, ih]
  | swap x y l => rw [List.sum_cons, List.sum_cons, List.sum_cons, List.sum_cons]; omega
  | trans _ _ ih1 ih2 => rw [ih1, ih2]
theorem nsum_perm {a b : List Nat} (h : a.Perm b) : a.sum = b.sum := by
  induction h with
  | nil => rfl
  | cons x _ ih => rw [List.sum_cons, List.sum_cons, ih]
  | swap x y l => rw [List.sum_cons, List.sum_cons, List.sum_cons, List.sum_cons]; omega
  | trans _ _ ih1 ih2 => rw [ih1, ih2]
/-- the cost by symbol -/
def costI (ws ls : List Int) : Int := ((List.range ws.length).map fun k => ws.getD k 0 * ls.getD k 0).sum
theorem RR_map (f : Nat → Int) (g : Nat → Nat) : ∀ o : List Nat, RR (o.map f) (o.map g) 0 = (o.map fun x => f x * (g x : Int)).sum
  | [] => rfl
  | x :: o => by
    have := RR_map f g o
    rw [List.map_cons, List.map_cons, List.map_cons, List.sum_cons, ← this]
    rfl
theorem tot_map (L : Nat) (g : Nat → Nat) : ∀ o : List Nat, tot L (o.map g) = (o.map fun x => 2 ^ (L - g x)).sum
  | [] => rfl
  | x :: o => by
    rw [List.map_cons, List.map_cons, List.sum_cons, ← tot_map L g o]
    rfl
def asI (F : List Nat) : List Int := F.map fun (l : Nat) => (l : Int)
theorem asI_get (F : List Nat) (k : Nat) : (asI F).getD k 0 = ((F.getD k 0 : Nat) : Int) := by
  unfold asI
  rw [List.getD_eq_getElem?_getD, List.getElem?_map, List.getD_eq_getElem?_getD]
  cases F[k]? <;> rfl
theorem map_get (F : List Nat) : (List.range F.length).map (fun k => F.getD k 0) = F := by
  refine List.ext_getElem (by simp) fun i h1 h2 => ?_
  simp [List.getD_eq_getElem?_getD, h2]
theorem RR_cost {ws : List Int} {F : List Nat} : RR (ranked ws) ((rankL ws).map fun k => F.getD k 0) 0 = costI ws (asI F) := by
  unfold ranked costI
  rw [RR_map, sum_perm ((rank_perm ws).map _)]
  congr 1
  refine List.map_congr_left fun k _ => ?_
  rw [asI_get]
  rfl
theorem tot_rank {ws : List Int} {F : List Nat} (L : Nat) (h : F.length = ws.length) : tot L ((rankL ws).map fun k => F.getD k 0) = tot L F := by
  rw [tot_map, nsum_perm ((rank_perm ws).map _), ← h]
  conv => rhs; rw [← map_get F, tot_map]
/-- any lengths that keep the limit cost at least the value of the first stage -/
theorem first_le {ws : List Int} {F : List Nat} {L : Nat} (hL : 1 ≤ L) (hne : ws ≠ []) (h0 : ∀ v ∈ ws, 0 ≤ v) (hF : F.length = ws.length) (h1 : ∀ l ∈ F, 1 ≤ l ∧ l ≤ L) (hk : tot L F ≤ 2 ^ L) : ∃ v, V (sumsL ws) L (st 0 0 1) = some v ∧ v ≤ costI ws (asI F) := by
  have hpos : 0 < ws.length := List.length_pos_iff.mpr hne
  obtain ⟨as, c, hp, hc⟩ := path_first (vs := ranked ws) (ls := (rankL ws).map fun k => F.getD k 0) (L := L) (by rw [ranked_len, List.length_map, rank_len]) (fun z => by
      have := congrArg List.length z
      rw [List.length_map, rank_len] at this
      have this : ws.length = 0 := this
      omega) (fun v hv => h0 v ((ranked_perm ws).mem_iff.mp hv)) (ranked_desc ws) (fun l hl => by
      obtain ⟨k, hk, rfl⟩ := List.mem_map.mp hl
      have hk := rank_lt hk
      refine h1 _ ?_
      rw [List.getD_eq_getElem?_getD, List.getElem?_eq_getElem (by omega)]
      exact List.getElem_mem _) (by rw [tot_rank L hF]; exact hk)
  obtain ⟨v, hv, hvc⟩ := val_le hL hp (by rw [ranked_len]; exact hpos) (Nat.le_refl _)
  refine ⟨v, hv, ?_⟩
  rw [RR_cost] at hc
  omega
/-- the lengths of the rule, by symbol -/
def dueF (ws : List Int) (L : Nat) : List Nat := due (sumsL ws) L (L + 1) (st 0 0 1)
def lensW (ws : List Int) (L : Nat) : List Int := scat (rankL ws) 0 0 (dueF ws L) (List.replicate ws.length 0)
structure Good (ws : List Int) (L : Nat) (v : Int) (F : List Nat) : Prop where
  len : F.length = ws.length
  bd : ∀ l ∈ F, 1 ≤ l ∧ l ≤ L
  kr : tot L F ≤ 2 ^ L
  co : costI ws (asI F) = v
theorem lens_good {ws : List Int} {L : Nat} {v : Int} (hL : 1 ≤ L) (hne : ws ≠ []) (hv : V (sumsL ws) L (st 0 0 1) = some v) : ∃ F, lensW ws L = asI F ∧ Good ws L v F := by
  have hpos : 0 < ws.length := List.length_pos_iff.mpr hne
  have hp := due_path (vs := ranked ws) hL (L + 1) 0 0 1 v (by omega) (by omega) (by rw [ranked_len]; exact hpos) (Nat.le_refl _) hv
  have hl := lens_of hp (Nat.zero_le _)
  have e : due (restL (ranked ws)) L (L + 1) (st 0 0 1) = dueF ws L := rfl
  rw [e, List.drop_zero] at hl
  obtain ⟨l1, l2, l3, l4, l5⟩ := hl
  have hW : lensW ws L = setAll (List.replicate ws.length 0) (rankL ws) (lensF 0 (dueF ws L)) := by
    have := scat_set (rankL ws) (dueF ws L) 0 0 (List.replicate ws.length 0) (by rw [← lensF_len, l1, rank_len, ranked_len]; omega)
    rw [List.drop_zero] at this
    exact this
  generalize lensF 0 (dueF ws L) = ls at *
  have hnd : (rankL ws).Nodup := (rank_perm ws).nodup_iff.mpr List.nodup_range
  have hn : ls.length = ws.length := by rw [l1, ranked_len]; omega
  have hon := setAll_on (rankL ws) ls (List.replicate ws.length 0) hnd (fun x hx => by rw [List.length_replicate]; exact rank_lt hx) (by rw [rank_len, hn])
  have hlen := setAll_len (rankL ws) ls (List.replicate ws.length 0)
  rw [← hW] at hon hlen
  rw [List.length_replicate] at hlen
  generalize lensW ws L = W at *
  have hnn : ∀ k, k < ws.length → ∃ l ∈ ls, W.getD k 0 = (l : Int) := fun k hk => by
    have : W.getD k 0 ∈ (rankL ws).map (fun x => W.getD x 0) := List.mem_map.mpr ⟨k, ((rank_is ws).mem k).mpr hk, rfl⟩
    rw [hon] at this
    obtain ⟨l, hl, e⟩ := List.mem_map.mp this
    exact ⟨l, hl, e.symm⟩
  refine ⟨W.map Int.toNat, ?_, ?_⟩
  · unfold asI
    rw [List.map_map]
    refine (List.ext_getElem (by simp) fun i h1 h2 => ?_).symm
    obtain ⟨l, hl, e⟩ := hnn i (by rw [← hlen]; exact h2)
    rw [List.getD_eq_getElem?_getD, List.getElem?_eq_getElem h2] at e
    rw [List.getElem_map]
    show ((W[i].toNat : Nat) : Int) = W[i]
    have e : W[i] = (l : Int) := e
    rw [e]
    rfl
  · have hgd : ∀ k, (W.map Int.toNat).getD k 0 = (W.getD k 0).toNat := fun k => by
      rw [List.getD_eq_getElem?_getD, List.getElem?_map, List.getD_eq_getElem?_getD]
      cases W[k]? <;> rfl
    have hF : (W.map Int.toNat).length = ws.length := by rw [List.length_map, hlen]
    have hr : (rankL ws).map (fun k => (W.map Int.toNat).getD k 0) = ls := by
      have h2 : ((rankL ws).map (fun x => W.getD x 0)).map Int.toNat = (ls.map fun (l : Nat) => (l : Int)).map Int.toNat := by rw [hon]
      rw [List.map_map, List.map_map] at h2
      have h3 : ls.map (Int.toNat ∘ fun (l : Nat) => (l : Int)) = ls := by
        have : (Int.toNat ∘ fun (l : Nat) => (l : Int)) = id := funext fun l => by simp
        rw [this, List.map_id]
      rw [h3] at h2
      rw [← h2]
      exact List.map_congr_left fun k _ => hgd k
    have hc := RR_cost (ws := ws) (F := W.map Int.toNat)
    rw [hr, l2] at hc
    refine ⟨hF, fun l hl => ?_, ?_, hc.symm⟩
    · obtain ⟨x, hx, rfl⟩ := List.mem_map.mp hl
      obtain ⟨i, hi, rfl⟩ := List.mem_iff_getElem.mp hx
      obtain ⟨l, hl, e⟩ := hnn i (by rw [← hlen]; exact hi)
      rw [List.getD_eq_getElem?_getD, List.getElem?_eq_getElem hi] at e
      have e : W[i] = (l : Int) := e
      rw [e]
      exact ⟨l5 rfl l hl, (l4 l hl).2⟩
    · have ht := tot_rank (ws := ws) (F := W.map Int.toNat) L hF
      rw [hr] at ht
      rw [← ht]
      simpa using l3
/-- all lists of lengths that keep the limit, as they are made -/
def rowStep (L : Nat) (r : List Nat × Nat) (i : Nat) : Option (List Nat × Nat) := if r.2 + 2 ^ (L - (i + 1)) ≤ 2 ^ L then some (r.1 ++ [i + 1], r.2 + 2 ^ (L - (i + 1))) else none
def rowsL (L : Nat) : Nat → List (List Nat × Nat)
  | 0 => [([], 0)]
  | k + 1 => (rowsL L k).flatMap fun r => (List.range L).filterMap (rowStep L r)
theorem tot_snoc (L : Nat) (F : List Nat) (l : Nat) : tot L (F ++ [l]) = tot L F + 2 ^ (L - l) := by
  rw [tot_app]; simp [tot]
theorem rows_is (L : Nat) : ∀ (k : Nat) (F : List Nat) (u : Nat), (F, u) ∈ rowsL L k → F.length = k ∧ (∀ l ∈ F, 1 ≤ l ∧ l ≤ L) ∧ tot L F = u ∧ u ≤ 2 ^ L
  | 0, F, u, h => by
    have := List.mem_singleton.mp h
    injection this with e1 e2
    subst e1 e2
    refine ⟨rfl, fun l hl => by simp at hl, rfl, Nat.zero_le _⟩
  | k + 1, F, u, h => by
    obtain ⟨r, hr, h⟩ := List.mem_flatMap.mp h
    obtain ⟨i, hi, h⟩ := List.mem_filterMap.mp h
    have hi := List.mem_range.mp hi
    unfold rowStep at h
    by_cases z : r.2 + 2 ^ (L - (i + 1)) ≤ 2 ^ L
    · rw [if_pos z] at h
      have h := Option.some.inj h
      injection h with e1 e2
      obtain ⟨i1, i2, i3, i4⟩ := rows_is L k r.1 r.2 hr
      subst e1 e2
      refine ⟨by rw [List.length_append, i1]; rfl, fun l hl => ?_, by rw [tot_snoc, i3], z⟩
      rcases List.mem_append.mp hl with y | y
      · exact i2 l y
      · rw [List.mem_singleton.mp y]
        omega
    · rw [if_neg z] at h
      exact absurd h (by simp)
theorem rows_all (L : Nat) : ∀ (k : Nat) (F : List Nat), F.length = k → (∀ l ∈ F, 1 ≤ l ∧ l ≤ L) → tot L F ≤ 2 ^ L → (F, tot L F) ∈ rowsL L k
  | 0, F, h, _, _ => by
    rw [List.length_eq_zero_iff.mp h]
    exact List.mem_singleton.mpr rfl
  | k + 1, F, h, h1, hk => by
    have hne : F ≠ [] := fun e => by rw [e] at h; simp at h
    have e := List.dropLast_concat_getLast hne
    generalize F.dropLast = G at e
    generalize F.getLast hne = l at e
    subst e
    rw [tot_snoc] at hk ⊢
    have hl := h1 l (by simp)
    have ih := rows_all L k G (by simpa using h) (fun x hx => h1 x (by simp [hx])) (Nat.le_trans (Nat.le_add_right _ _) hk)
    refine List.mem_flatMap.mpr ⟨_, ih, List.mem_filterMap.mpr ⟨l - 1, List.mem_range.mpr (by omega), ?_⟩⟩
    unfold rowStep
    rw [show l - 1 + 1 = l by omega, if_pos hk]
def bestAll (ws : List Int) (L : Nat) : Option Int := omin ((rowsL L ws.length).map fun r => some (costI ws (asI r.1)))
theorem best_all {ws : List Int} {L : Nat} {v : Int} (hL : 1 ≤ L) (hne : ws ≠ []) (h0 : ∀ v ∈ ws, 0 ≤ v) (hv : V (sumsL ws) L (st 0 0 1) = some v) : bestAll ws L = some v := by
  obtain ⟨F, _, g⟩ := lens_good hL hne hv
  have hi := omin_is ((rowsL L ws.length).map fun r => some (costI ws (asI r.1)))
  have hm : some v ∈ (rowsL L ws.length).map fun r => some (costI ws (asI r.1)) := List.mem_map.mpr ⟨_, rows_all L ws.length F g.len g.bd g.kr, by show some (costI ws (asI F)) = _; rw [g.co]⟩
  unfold bestAll
  cases e : omin ((rowsL L ws.length).map fun r => some (costI ws (asI r.1))) with
  | none => exact absurd (hi.none e _ hm) (by simp)
  | some w =>
    have h1 := hi.le w v e hm
    obtain ⟨r, hr, h2⟩ := List.mem_map.mp (hi.mem w e)
    obtain ⟨i1, i2, i3, i4⟩ := rows_is L _ r.1 r.2 hr
    obtain ⟨v', hv', hle⟩ := first_le hL hne h0 i1 i2 (by rw [i3]; exact i4)
    rw [hv] at hv'
    have := Option.some.inj hv'
    have := Option.some.inj h2
    rw [show w = v by omega]
/-- there are lengths that keep a limit which is not too small -/
theorem first_some {ws : List Int} {L : Nat} (hL : 1 ≤ L) (hne : ws ≠ []) (h0 : ∀ v ∈ ws, 0 ≤ v) (h : ws.length ≤ 2 ^ L) : ∃ v, V (sumsL ws) L (st 0 0 1) = some v := by
  obtain ⟨v, hv, _⟩ := first_le (F := List.replicate ws.length L) hL hne h0 (by simp) (fun l hl => by rw [(List.mem_replicate.mp hl).2]; omega) (by rw [tot_rep, Nat.sub_self]; simpa using h)
  exact ⟨v, hv⟩
theorem kraft_tot (L : Nat) (hL : L ≤ 20) : ∀ F : List Nat, (∀ l ∈ F, 1 ≤ l ∧ l ≤ L) → M01.kraft (asI F) = ((tot L F * 2 ^ (20 - L) : Nat) : Int)
  | [], _ => by simp [asI, M01.kraft, tot]
  | l :: F, h => by
    have ih := kraft_tot L hL F fun x hx => h x (by simp [hx])
    have hl := h l (by simp)
    have e : M01.kraft (asI (l :: F)) = M01.share (l : Int) + M01.kraft (asI F) := by
      unfold asI M01.kraft
      rw [List.map_cons, List.map_cons, List.sum_cons]
    have e2 : M01.share (l : Int) = ((2 ^ (L - l) * 2 ^ (20 - L) : Nat) : Int) := by
      unfold M01.share
      rw [if_neg (by omega), ← Nat.pow_add, show (20 - (l : Int).toNat) = L - l + (20 - L) by omega]
      push_cast
      rfl
    rw [e, ih, e2]
    show _ = (((2 ^ (L - l) + tot L F) * 2 ^ (20 - L) : Nat) : Int)
    rw [Nat.add_mul]
    push_cast
    rfl
theorem good_room {ws : List Int} {L : Nat} {v : Int} {F : List Nat} (hL : L ≤ 20) (g : Good ws L v F) : 0 ≤ M01.roomL (asI F) := by
  have h1 := kraft_tot L hL F g.bd
  have h2 : tot L F * 2 ^ (20 - L) ≤ 2 ^ L * 2 ^ (20 - L) := Nat.mul_le_mul_right _ g.kr
  rw [← Nat.pow_add, show L + (20 - L) = 20 by omega] at h2
  unfold M01.roomL
  rw [h1]
  have : (2 : Nat) ^ 20 = 1048576 := rfl
  omega
end M04
set_option linter.all false
/-! The stages that choices lead to. -/
namespace M04
open M03
inductive Reach (sums : List Int) (L : Int) : Stg → Prop
  | first : Reach sums L (0, 0, 1)
  | next {s s' : Stg} {c : Cho} : Reach sums L s → c ∈ chS sums L s → c.2.2 = some s' → Reach sums L s'
def nexts (sums : List Int) (L : Int) (s : Stg) : List Stg := (chS sums L s).filterMap (·.2.2)
theorem mem_nexts {sums : List Int} {L : Int} {s s' : Stg} : s' ∈ nexts sums L s ↔ ∃ c ∈ chS sums L s, c.2.2 = some s' := by
  unfold nexts
  rw [List.mem_filterMap]
section
variable {sums : List Int} {L : Int} {s s' : Stg}
theorem next_of (h : SOk sums L s) {c : Cho} (hc : c ∈ chS sums L s) (e : c.2.2 = some s') : SOk sums L s' ∧ s'.1 = s.1 + 1 ∧ s.1 < L ∧ s'.2.2 ≤ nN sums := by
  obtain ⟨a, p, nx⟩ := c
  have e : nx = some s' := e
  subst e
  have hc := (ch_mem h).mp hc
  obtain ⟨h1, h2, h3⟩ := next_ok h hc
  refine ⟨h1, h2, h3, ?_⟩
  have hm := h.m
  cases hc with
  | go g0 g1 g2 g3 g4 =>
    show (if nN sums - s.2.1 - a < 2 * (s.2.2 - a) then nN sums - s.2.1 - a else 2 * (s.2.2 - a)) ≤ _
    split <;> omega
theorem Reach.ok (hL : 1 ≤ L) (hn : 1 ≤ nN sums) (h : Reach sums L s) : SOk sums L s ∧ s.2.2 ≤ nN sums := by
  induction h with
  | first => exact ⟨⟨hL, ⟨Int.le_refl _, (show (0 : Int) ≤ L by omega)⟩, ⟨Int.le_refl _, (show (0 : Int) < (sums.length : Int) - 1 by unfold nN at hn; omega)⟩, Int.le_refl _⟩, hn⟩
  | next _ hc e ih =>
    obtain ⟨h1, _, _, h4⟩ := next_of ih.1 hc e
    exact ⟨h1, h4⟩
structure RS (sums : List Int) (L : Int) (ss : List Stg) : Prop where
  nd : ss.Nodup
  iff : ∀ s, s ∈ ss ↔ Reach sums L s
  asc : ss.Pairwise fun a b => a.1 ≤ b.1
def Lv (sums : List Int) (L : Int) (t : Nat) (W : List Stg) : Prop := ∀ s, s ∈ W ↔ Reach sums L s ∧ s.1 = t
structure Inl (sums : List Int) (L : Int) (t : Nat) (W : List Stg) (i : Nat) (ss Fw : List Stg) : Prop where
  nd : ss.Nodup
  iff : ∀ s, s ∈ ss ↔ (Reach sums L s ∧ s.1 < t) ∨ s ∈ W.take i
  asc : ss.Pairwise fun a b => a.1 ≤ b.1
  fw : ∀ s', s' ∈ Fw ↔ ∃ s ∈ W.take i, s' ∈ nexts sums L s
  len : Fw.length ≤ ss.length * 20
theorem lv_zero (hL : 1 ≤ L) (hn : 1 ≤ nN sums) : Lv sums L 0 [(0, 0, 1)] := fun s => by
  constructor
  · intro h
    rw [List.mem_singleton.mp h]
    exact ⟨.first, rfl⟩
  · rintro ⟨h, e⟩
    cases h with
    | first => exact List.mem_singleton.mpr rfl
    | next hr hc e2 =>
      have ok := (hr.ok hL hn).1
      have := (next_of ok hc e2).2.1
      have := ok.d
      exfalso
      have e : s.1 = 0 := e
      omega
theorem inl_zero (hL : 1 ≤ L) (hn : 1 ≤ nN sums) : Inl sums L 0 [(0, 0, 1)] 0 [] [] := ⟨.nil, fun s => by
  constructor
  · intro h; simp at h
  · rintro (⟨h, e⟩ | h)
    · have := ((h.ok hL hn).1).d
      have e : s.1 < 0 := e
      omega
    · simp at h, .nil, fun s' => by simp, by simp⟩
theorem take_mem {W : List Stg} {i : Nat} {x : Stg} (hx : W[i]? = some x) {s : Stg} : s ∈ W.take (i + 1) ↔ s ∈ W.take i ∨ s = x := by
  rw [List.take_succ, hx, List.mem_append]
  simp
theorem Inl.old {t : Nat} {W ss Fw : List Stg} {i : Nat} {x : Stg} (h : Inl sums L t W i ss Fw) (lv : Lv sums L t W) (hx : W[i]? = some x) (hm : x ∈ ss) : Inl sums L t W (i + 1) ss Fw := by
  have hxt := ((lv x).mp (List.mem_of_getElem? hx)).2
  have hin : x ∈ W.take i := by
    rcases (h.iff x).mp hm with ⟨_, z⟩ | z
    · omega
    · exact z
  refine ⟨h.nd, fun s => ?_, h.asc, fun s' => ?_, h.len⟩
  · rw [h.iff, take_mem hx]
    constructor
    · rintro (a | a)
      · exact .inl a
      · exact .inr (.inl a)
    · rintro (a | a | a)
      · exact .inl a
      · exact .inr a
      · rw [a]; exact .inr hin
  · rw [h.fw]
    constructor
    · rintro ⟨s, a, b⟩
      exact ⟨s, (take_mem hx).mpr (.inl a), b⟩
    · rintro ⟨s, a, b⟩
      rcases (take_mem hx).mp a with a | a
      · exact ⟨s, a, b⟩
      · subst a; exact ⟨s, hin, b⟩
theorem Inl.new {t : Nat} {W ss Fw : List Stg} {i : Nat} {x : Stg} (h : Inl sums L t W i ss Fw) (lv : Lv sums L t W) (hx : W[i]? = some x) (hm : x ∉ ss) (hlen : (nexts sums L x).length ≤ 20) : Inl sums L t W (i + 1) (ss ++ [x]) (Fw ++ nexts sums L x) := by
  have hxt := ((lv x).mp (List.mem_of_getElem? hx)).2
  have hle : ∀ s ∈ ss, s.1 ≤ x.1 := fun s hs => by
    rcases (h.iff s).mp hs with ⟨_, z⟩ | z
    · omega
    · have := ((lv s).mp (List.mem_of_mem_take z)).2
      omega
  refine ⟨?_, fun s => ?_, ?_, fun s' => ?_, ?_⟩
  · rw [List.nodup_append]
    refine ⟨h.nd, by simp, fun a ha b hb e => ?_⟩
    rw [List.mem_singleton.mp hb] at e
    subst e
    exact hm ha
  · rw [List.mem_append, h.iff, take_mem hx, List.mem_singleton]
    constructor
    · rintro ((a | a) | a)
      · exact .inl a
      · exact .inr (.inl a)
      · exact .inr (.inr a)
    · rintro (a | a | a)
      · exact .inl (.inl a)
      · exact .inl (.inr a)
      · exact .inr a
  · rw [List.pairwise_append]
    refine ⟨h.asc, List.pairwise_singleton _ _, fun a ha b hb => ?_⟩
    rw [List.mem_singleton.mp hb]
    exact hle a ha
  · rw [List.mem_append, h.fw]
    constructor
    · rintro (⟨s, a, b⟩ | a)
      · exact ⟨s, (take_mem hx).mpr (.inl a), b⟩
      · exact ⟨x, (take_mem hx).mpr (.inr rfl), a⟩
    · rintro ⟨s, a, b⟩
      rcases (take_mem hx).mp a with a | a
      · exact .inl ⟨s, a, b⟩
      · subst a; exact .inr b
  · have := h.len
    rw [List.length_append, List.length_append, List.length_singleton]
    omega
theorem Inl.done (hL : 1 ≤ L) (hn : 1 ≤ nN sums) {t : Nat} {W ss Fw : List Stg} (h : Inl sums L t W W.length ss Fw) (lv : Lv sums L t W) : Lv sums L (t + 1) Fw ∧ ∀ W', Inl sums L (t + 1) W' 0 ss [] := by
  refine ⟨fun s' => ?_, fun W' => ⟨h.nd, fun s => ?_, h.asc, fun s' => by simp, by simp⟩⟩
  · rw [h.fw, List.take_length]
    constructor
    · rintro ⟨s, a, b⟩
      obtain ⟨r, e⟩ := (lv s).mp a
      obtain ⟨c, hc, ec⟩ := mem_nexts.mp b
      have := (next_of (r.ok hL hn).1 hc ec).2.1
      exact ⟨.next r hc ec, by push_cast; omega⟩
    · rintro ⟨r, e⟩
      cases r with
      | first => exfalso; have e : (0 : Int) = ((t + 1 : Nat) : Int) := e; omega
      | @next s _ c hr hc ec =>
        have := (next_of (hr.ok hL hn).1 hc ec).2.1
        exact ⟨s, (lv s).mpr ⟨hr, by push_cast at e; omega⟩, mem_nexts.mpr ⟨c, hc, ec⟩⟩
  · rw [h.iff, List.take_length, lv]
    simp only [List.take_zero, List.not_mem_nil, or_false]
    constructor
    · rintro (⟨a, b⟩ | ⟨a, b⟩)
      · exact ⟨a, by push_cast; omega⟩
      · exact ⟨a, by push_cast; omega⟩
    · rintro ⟨a, b⟩
      push_cast at b
      by_cases z : s.1 < t
      · exact .inl ⟨a, z⟩
      · exact .inr ⟨a, by omega⟩
theorem rs_of (hL : 1 ≤ L) (hn : 1 ≤ nN sums) {t : Nat} {ss : List Stg} (lv : Lv sums L t []) (h : Inl sums L t [] 0 ss []) : RS sums L ss := by
  have key : ∀ s, Reach sums L s → s.1 < t := fun s r => by
    induction r with
    | first =>
      show (0 : Int) < t
      rcases Nat.eq_zero_or_pos t with z | z
      · exact absurd ((lv (0, 0, 1)).mpr ⟨.first, by rw [z]; rfl⟩) (by simp)
      · omega
    | @next s s' c hr hc ec ih =>
      have := (next_of (hr.ok hL hn).1 hc ec).2.1
      by_cases z : s'.1 = t
      · exact absurd ((lv s').mpr ⟨.next hr hc ec, z⟩) (by simp)
      · omega
  refine ⟨h.nd, fun s => ?_, h.asc⟩
  rw [h.iff]
  simp only [List.take_nil, List.not_mem_nil, or_false]
  exact ⟨fun a => a.1, fun a => ⟨a, key s a⟩⟩
theorem lv_end (hL : 1 ≤ L) (hn : 1 ≤ nN sums) {t : Nat} {W : List Stg} (lv : Lv sums L t W) (hne : W ≠ []) : (t : Int) ≤ L := by
  obtain ⟨x, r, e⟩ := List.exists_cons_of_ne_nil hne
  have hx : x ∈ W := by rw [e]; simp
  obtain ⟨h1, h2⟩ := (lv x).mp hx
  have := ((h1.ok hL hn).1).d
  omega
/-- few stages -/
def allSt : List Stg := (List.range 17).flatMap fun (d : Nat) => (List.range 17).flatMap fun (m : Nat) => (List.range 17).map fun (k : Nat) => ((d : Int), (m : Int), (k : Int))
theorem all_len : allSt.length = 4913 := by decide +kernel
theorem few {ss : List Stg} (hL : 1 ≤ L) (hL2 : L ≤ 16) (hn : 1 ≤ nN sums) (hn2 : nN sums ≤ 16) (nd : ss.Nodup) (h : ∀ s ∈ ss, Reach sums L s) : ss.length ≤ 4913 := by
  have sub : ∀ (l m : List Stg), l.Nodup → (∀ x ∈ l, x ∈ m) → l.length ≤ m.length := by
    intro l
    induction l with
    | nil => intro m _ _; exact Nat.zero_le _
    | cons x l ih =>
      intro m h hs
      have h' := List.nodup_cons.mp h
      have hx := hs x List.mem_cons_self
      have h1 := ih (m.erase x) h'.2 fun y hy => (List.mem_erase_of_ne (fun e => h'.1 (by rw [← e]; exact hy))).mpr (hs y (List.mem_cons_of_mem _ hy))
      rw [List.length_erase_of_mem hx] at h1
      have h2 := List.length_pos_of_mem hx
      simp only [List.length_cons]
      omega
  rw [← all_len]
  refine sub ss allSt nd fun s hs => ?_
  obtain ⟨ok, hk⟩ := (h s hs).ok hL hn
  obtain ⟨_, hd, hm, hk1⟩ := ok
  have hm2 : s.2.1 < nN sums := hm.2
  refine List.mem_flatMap.mpr ⟨s.1.toNat, List.mem_range.mpr (by omega), List.mem_flatMap.mpr ⟨s.2.1.toNat, List.mem_range.mpr (by omega), List.mem_map.mpr ⟨s.2.2.toNat, List.mem_range.mpr (by omega), ?_⟩⟩⟩
  have hm3 := hm.1
  obtain ⟨d, m, k⟩ := s
  simp only [Prod.mk.injEq] at *
  exact ⟨by omega, by omega, by omega⟩
theorem ch_len {d m k : Int} (hk : k ≤ 16) : (chL sums L d m k).length ≤ 17 := by
  unfold chL
  have := List.length_filterMap_le (chOne sums L d m k) (List.range (chN sums m k))
  rw [List.length_range] at this
  have h2 : chN sums m k ≤ 17 := by
    unfold chN
    split <;> omega
  omega
theorem nexts_len (hk : s.2.2 ≤ 16) : (nexts sums L s).length ≤ 20 := by
  have h1 := List.length_filterMap_le (fun c : Cho => c.2.2) (chS sums L s)
  have h2 := ch_len (sums := sums) (L := L) (d := s.1) (m := s.2.1) hk
  show ((chS sums L s).filterMap (·.2.2)).length ≤ 20
  unfold chS at *
  omega
/-- what is behind a stage in the other order -/
theorem RS.behind {ss A B : List Stg} (h : RS sums L ss) (e : ss = A ++ s :: B) (hL : 1 ≤ L) (hn : 1 ≤ nN sums) {c : Cho} (hc : c ∈ chS sums L s) (ec : c.2.2 = some s') : s' ∈ B := by
  have hs : Reach sums L s := (h.iff s).mp (by rw [e]; simp)
  have h1 := (next_of (hs.ok hL hn).1 hc ec).2.1
  have hm := (h.iff s').mpr (.next hs hc ec)
  have ha := h.asc
  rw [e] at hm ha
  rw [List.pairwise_append] at ha
  rcases List.mem_append.mp hm with z | z
  · have := ha.2.2 s' z s (by simp)
    omega
  · rcases List.mem_cons.mp z with z | z
    · rw [z] at h1
      omega
    · exact z
end
end M04
set_option Elab.async false
set_option linter.all false
set_option maxRecDepth 100000
set_option maxHeartbeats 4000000
namespace K06
open PySem PySem.Spec PyProof.Rows L2 GX KC Evl M03 M04
/-! ### stages as keys and as data -/
def keyS (s : Stg) : List Key := KC.stK s.1 s.2.1 s.2.2
theorem keyS_inj {s s' : Stg} (h : keyS s = keyS s') : s = s' := by
  obtain ⟨a, b, c⟩ := s
  obtain ⟨d, e, f⟩ := s'
  simp only [keyS, KC.stK, List.cons.injEq, Sum.inl.injEq, and_true] at h
  obtain ⟨rfl, rfl, rfl⟩ := h
  rfl
def stV (s : Stg) : List V := [.int s.1, .int s.2.1, .int s.2.2]
theorem keyS_V (s : Stg) : (keyS s).map kV = stV s := rfl
def stD (s : Stg) : PyData := .tuple [.int s.1, .int s.2.1, .int s.2.2]
theorem stD_noList (s : Stg) : noList (stD s) = true := rfl
structure GF (K : PySem.W.Frag) (mg : Str → Option Value) (tf : Addr) : Prop where
  g_FIRST : mg "FIRST" = some (.ref tf)
  st : ∀ H, SqT K H tf [.int 0, .int 0, .int 1]
section
variable {P : Program} {w : World} {K : PySem.W.Frag} {mg : Str → Option Value} {base : Heap}
theorem stD_at {H : Hp} {v : V} {s : Stg} (h : Dp K H v (stD s)) : ∃ t, v = .ref t ∧ SqT K H t (stV s) := by
  cases h with
  | tup h1 h2 =>
    refine ⟨_, rfl, ?_⟩
    cases h2 with
    | cons a b => cases a; cases b with
      | cons a b => cases a; cases b with
        | cons a b => cases a; cases b; exact h1
theorem stD_mk {H : Hp} {t : Addr} {s : Stg} (h : SqT K H t (stV s)) : Dp K H (.ref t) (stD s) := .tup h (.cons (.int _) (.cons (.int _) (.cons (.int _) .nil)))
theorem dp_get {H : Hp} : ∀ {vs : List V} {ds : List PyData} {i : Nat} {x : V}, DpAll K H vs ds → vs[i]? = some x → ∃ d, ds[i]? = some d ∧ Dp K H x d
  | _, _, _, _, .nil, h => by simp at h
  | _, _, 0, _, .cons a _, h => ⟨_, rfl, by rw [← Option.some.inj (show some _ = some _ from h)]; exact a⟩
  | _, _, i + 1, _, .cons _ b, h => by
    obtain ⟨d, h1, h2⟩ := dp_get b (by simpa using h)
    exact ⟨d, by simpa using h1, h2⟩
theorem dp_appAll {H : Hp} : ∀ {vs us : List V} {ds es : List PyData}, DpAll K H vs ds → DpAll K H us es → DpAll K H (vs ++ us) (ds ++ es)
  | _, _, _, _, .nil, h => h
  | _, _, _, _, .cons a b, h => .cons a (dp_appAll b h)
/-- a choice, in its parts -/
theorem ch_at {H : Hp} {v : V} {c : Cho} (h : Dp K H v (chD c)) : ∃ t n, v = .ref t ∧ SqT K H t [.int c.1, .int c.2.1, n] ∧ Dp K H n (nxD c.2.2) := by
  obtain ⟨a, p, nx⟩ := c
  have h : Dp K H v (.tuple [.int a, .int p, nxD nx]) := h
  cases h with
  | tup h1 h2 =>
    cases h2 with
    | cons a b => cases a; cases b with
      | cons a b => cases a; cases b with
        | cons a b => cases b; exact ⟨_, _, rfl, h1, a⟩
theorem nx_some {H : Hp} {n : V} {s : Stg} {nx : Nxt} (h : Dp K H n (nxD nx)) (e : nx = some s) : ∃ t, n = .ref t ∧ SqT K H t (stV s) := by
  subst e
  obtain ⟨d, m, k⟩ := s
  exact stD_at (s := (d, m, k)) h
theorem nx_none {H : Hp} {n : V} {nx : Nxt} (h : Dp K H n (nxD nx)) (e : nx = none) : n = .non := by
  subst e
  cases h
  rfl
theorem nx_is {H : Hp} {n : V} {nx : Nxt} (h : Dp K H n (nxD nx)) : decide (n = .non) = nx.isNone := by
  cases nx with
  | none => rw [nx_none h rfl]; rfl
  | some s =>
    obtain ⟨t, e, _⟩ := nx_some h rfl
    rw [e]
    rfl
/-! ### the dict of stages with their choices -/
structure ChAt (K : PySem.W.Frag) (sums : List Int) (L : Int) (H : Hp) (kv : List Key × V) (s : Stg) : Prop where
  key : kv.1 = keyS s
  ob : ∃ c vs, kv.2 = .ref c ∧ H c = some (.lst vs) ∧ DpAll K H vs (chsD (chS sums L s))
abbrev RCh (K : PySem.W.Frag) (sums : List Int) (L : Int) (H : Hp) : List (List Key × V) → List Stg → Prop := Paired (ChAt K sums L H)
theorem rch_ext {sums : List Int} {L : Int} {H H' : Hp} {kvs : List (List Key × V)} {ss : List Stg} (e : Ex H H') (h : RCh K sums L H kvs ss) : RCh K sums L H' kvs ss := Paired.mapP h fun kv s z => by
  obtain ⟨h1, c, vs, h2, h3, h4⟩ := z
  exact ⟨h1, c, vs, h2, e _ _ h3, DpAll.ext e _ _ h4⟩
/-- a list that is none of them is written -/
theorem rch_put {sums : List Int} {L : Int} {H : Hp} {kvs : List (List Key × V)} {ss : List Stg} {p : Addr} {zs ys : List V} (hp : H p = some (.lst zs)) (hn : ∀ kv ∈ kvs, kv.2 ≠ .ref p) (h : RCh K sums L H kvs ss) : RCh K sums L (upd H p (.lst ys)) kvs ss := by
  induction h with
  | nil => exact .nil
  | cons z t ih =>
    obtain ⟨h1, c, vs, h2, h3, h4⟩ := z
    refine .cons ⟨h1, c, vs, h2, ?_, DpAll.put hp _ _ (chsD_noList _) h4⟩ (ih fun kv hk => hn kv (List.mem_cons_of_mem _ hk))
    have : c ≠ p := fun e => hn _ List.mem_cons_self (by rw [h2, e])
    rw [upd_ne this]
    exact h3
theorem rch_but {sums : List Int} {L : Int} {H H' : Hp} {kvs : List (List Key × V)} {ss : List Stg} {d : Addr} {φ : Heap → Prop} (hd : H d = some (.ext φ)) (k : ∀ c, c ≠ d → H' c = H c) (h : RCh K sums L H kvs ss) : RCh K sums L H' kvs ss := Paired.mapP h fun kv s z => by
  obtain ⟨h1, c, vs, h2, h3, h4⟩ := z
  exact ⟨h1, c, vs, h2, by rw [k c (fun e => by rw [e, hd] at h3; cases h3)]; exact h3, DpAll.keepT (fun b ys => sqt_but hd k) _ _ (chsD_noList _) h4⟩
theorem rch_mem {sums : List Int} {L : Int} {H : Hp} {kvs : List (List Key × V)} {ss : List Stg} (h : RCh K sums L H kvs ss) (s : Stg) : (valV kvs (keyS s)).isSome = decide (s ∈ ss) := by
  induction h with
  | nil => rw [valV_nil]; simp
  | @cons kv x kvs ss z t ih =>
    by_cases e : s = x
    · subst e
      rw [valV_pos z.key]
      simp
    · rw [valV_neg (fun q => e (keyS_inj (z.key ▸ q)).symm), ih]
      simp [e]
theorem rch_val {sums : List Int} {L : Int} {H : Hp} {kvs : List (List Key × V)} {ss : List Stg} {s : Stg} (h : RCh K sums L H kvs ss) (hs : s ∈ ss) : ∃ c vs, valV kvs (keyS s) = some (.ref c) ∧ H c = some (.lst vs) ∧ DpAll K H vs (chsD (chS sums L s)) := by
  induction h with
  | nil => simp at hs
  | @cons kv x kvs ss z t ih =>
    by_cases e : s = x
    · subst e
      obtain ⟨h1, c, vs, h2, h3, h4⟩ := z
      exact ⟨c, vs, by rw [valV_pos h1, h2], h3, h4⟩
    · rw [valV_neg (fun q => e (keyS_inj (z.key ▸ q)).symm)]
      exact ih (by
        rcases List.mem_cons.mp hs with q | q
        · exact absurd q e
        · exact q)
theorem rch_ref {sums : List Int} {L : Int} {H : Hp} {kvs : List (List Key × V)} {ss : List Stg} {p : Addr} (hp : H p = none) (h : RCh K sums L H kvs ss) : ∀ kv ∈ kvs, kv.2 ≠ .ref p := by
  induction h with
  | nil => intro kv hk; simp at hk
  | @cons kv x kvs ss z t ih =>
    intro kv' hk e
    rcases List.mem_cons.mp hk with q | q
    · subst q
      obtain ⟨h1, c, vs, h2, h3, h4⟩ := z
      rw [h2] at e
      injection e with e
      rw [e, hp] at h3
      cases h3
    · exact ih kv' q e
/-! ### the stages behind a stage, as a comprehension makes them -/
def isGo (cs : List Cho) (i : Nat) : Bool := match cs[i]? with
  | some c => c.2.2.isSome
  | none => false
theorem chs_split {H : Hp} : ∀ {vs : List V} {cs : List Cho}, DpAll K H vs (chsD cs) → ∃ ns : List V, ns.length = cs.length ∧ vs.length = cs.length ∧ ∀ (i : Nat) (c : Cho), cs[i]? = some c → ∃ (t : Addr) (n : V), vs[i]? = some (.ref t) ∧ ns[i]? = some n ∧ SqT K H t [.int c.1, .int c.2.1, n] ∧ Dp K H n (nxD c.2.2)
  | _, [], h => by
    cases h
    exact ⟨[], rfl, rfl, fun i c z => by simp at z⟩
  | _, c :: cs, h => by
    cases h with
    | cons a b =>
      obtain ⟨ns, h1, h2, h3⟩ := chs_split b
      obtain ⟨t, n, rfl, hs, hd⟩ := ch_at a
      refine ⟨n :: ns, by simp [h1], by simp [h2], fun i c' hc => ?_⟩
      cases i with
      | zero =>
        have := Option.some.inj (show some c = some c' from hc)
        subst this
        exact ⟨t, n, rfl, rfl, hs, hd⟩
      | succ i => simpa using h3 i c' (by simpa using hc)
theorem go_list {H : Hp} {cs : List Cho} {ns : List V} (hd : ∀ (i : Nat) (c : Cho), cs[i]? = some c → ∃ n : V, ns[i]? = some n ∧ Dp K H n (nxD c.2.2)) : ∀ i, i ≤ cs.length → DpAll K H (given i (isGo cs) fun j => ns.getD j .non) (((cs.take i).filterMap (·.2.2)).map stD)
  | 0, _ => .nil
  | i + 1, h => by
    have ih := go_list hd i (by omega)
    have hi : i < cs.length := by omega
    have hc : cs[i]? = some cs[i] := List.getElem?_eq_getElem hi
    generalize cs[i] = c at hc
    obtain ⟨n, hn, hdn⟩ := hd i c hc
    rw [fm_take _ _ hc]
    have hg : isGo cs i = c.2.2.isSome := by unfold isGo; rw [hc]
    have hnv : ns.getD i .non = n := by rw [List.getD_eq_getElem?_getD, hn]; rfl
    cases e : c.2.2 with
    | none =>
      rw [e] at hg
      rw [given_no hg]
      simpa using ih
    | some s =>
      rw [e] at hg
      rw [given_yes hg, hnv, List.map_append]
      obtain ⟨t, rfl, ht⟩ := nx_some hdn e
      exact dp_appAll ih (.cons (stD_mk ht) .nil)
end
end K06
set_option Elab.async false
set_option linter.all false
set_option maxRecDepth 100000
set_option maxHeartbeats 4000000
namespace K06
open PySem PySem.Spec PyProof.Rows L2 GX KC Evl M03 M04
section
variable {P : Program} {w : World} {K : PySem.W.Frag} {mg : Str → Option Value} {base : Heap}
/-- weights and a limit -/
structure WIn (K : PySem.W.Frag) (ws : List Int) (L : Nat) (l : Addr) (H : Hp) : Prop where
  sq : SqL K H l (ws.map V.int)
  n1 : 1 ≤ ws.length
  n2 : ws.length ≤ 16
  l1 : 1 ≤ L
  l2 : L ≤ 16
theorem WIn.ext {ws : List Int} {L : Nat} {l : Addr} {H H' : Hp} (e : Ex H H') (h : WIn K ws L l H) : WIn K ws L l H' := ⟨ex_l e h.sq, h.n1, h.n2, h.l1, h.l2⟩
theorem nN_sums (ws : List Int) : nN (sumsL ws) = ws.length := by
  unfold nN; rw [sumsL_len]; push_cast; omega
def spReach (P : Program) (w : World) (K : PySem.W.Frag) : Sp := fun vs H Q _ => ∃ (l : Addr) (ws : List Int) (L : Nat), vs = [.ref l, .int (L : Int)] ∧ WIn K ws L l H ∧
  ∀ d kvs ss H2, H d = none → Ex H H2 → DAt P w K H2 d kvs → RCh K (sumsL ws) L H2 kvs ss → RS (sumsL ws) L ss → Q (.ref d) H2
theorem spl_sums {H : Hp} {l : Addr} {ws : List Int} (hs : SqL K H l (ws.map V.int)) (hn : ws.length ≤ 64) : SpL (spSums K) ([.ref l] ++ []) H ((sumsL ws).map V.int) := fun H1 e1 Q q E => ⟨l, ws, rfl, ex_l e1 hs, hn, q⟩
theorem spd_ch {H : Hp} {l t : Addr} {sums : List Int} {L : Nat} {s : Stg} (hs : SqL K H l (sums.map V.int)) (ht : SqT K H t (stV s)) (ok : SOk sums L s) (hl : sums.length ≤ 1000) (hk : s.2.2 ≤ 1000) : SpLD K (spCh K chP) ([.ref l, .int (L : Int), .ref t] ++ []) H (chsD (chS sums L s)) := fun H1 e1 Q q E => ⟨l, t, sums, L, s.1, s.2.1, s.2.2, rfl, ⟨ex_l e1 hs, ex_t e1 ht, ok, hl, hk⟩, by
    rw [ch_same ok]
    exact fun p vs H2 hp e h hd => q p vs H2 hp e h hd⟩
theorem spd_chL {H : Hp} {l t : Addr} {sums : List Int} {L : Nat} {s : Stg} (hs : SqL K H l (sums.map V.int)) (ht : SqT K H t (stV s)) (ok : SOk sums L s) (hl : sums.length ≤ 1000) (hk : s.2.2 ≤ 1000) : SpLD K (spCh K chL) ([.ref l, .int (L : Int), .ref t] ++ []) H (chsD (chS sums L s)) := fun H1 e1 Q q E => ⟨l, t, sums, L, s.1, s.2.1, s.2.2, rfl, ⟨ex_l e1 hs, ex_t e1 ht, ok, hl, hk⟩,
    fun p vs H2 hp e h hd => q p vs H2 hp e h hd⟩
/-- what stands while stages are searched for -/
structure RW (P : Program) (w : World) (K : PySem.W.Frag) (ws : List Int) (L : Nat) (H H' : Hp) (ls d : Addr) (kvs : List (List Key × V)) (ss : List Stg) : Prop where
  ex : Ex H H'
  sq : H' ls = some (.lst ((sumsL ws).map V.int))
  da : DAt P w K H' d kvs
  rc : RCh K (sumsL ws) L H' kvs ss
theorem RW.go {ws : List Int} {L : Nat} {H H' H2 : Hp} {ls d : Addr} {kvs : List (List Key × V)} {ss : List Stg} (h : RW P w K ws L H H' ls d kvs ss) (e : Ex H' H2) : RW P w K ws L H H2 ls d kvs ss := ⟨h.ex.trans e, e _ _ h.sq, h.da.ext e, rch_ext e h.rc⟩
theorem lt64 {n : Nat} (h : n + 64 < cLine) : n + 1 < cLine := by omega
theorem ok_reached_stages {f : Addr} {fd : FuncData} {k : Nat} {tf : Addr} (T : GF K mg tf) (F : Fun K "reached_stages" "reached_stages" s_reached_stages f fd) (B : Bs mg) (C_rests : Cal P w K mg base "rests" 1 ["weights"] (spSums K)) (C_stage_choices : Cal P w K mg base "stage_choices" 2 ["sums", "limit", "stage"] (spCh K chP)) :
    FnOk P w K mg base CX0 (k + 3) f fd ["weights", "limit"] (spReach P w K) := by
  refine F.ok sc_reached_stages (fun vs H Q E h => ?_) (fun cdv A outer s H vs Q E hr h => ?_)
  · obtain ⟨l, ws, L, rfl, _⟩ := h
    rfl
  · obtain ⟨l, ws, L, rfl, hw, q⟩ := h
    have hu := lt64 hr.units
    refine ⟨_, (pss_cons (ps_set (i := 2) sc_reached_stages.nd rfl (Or.inl rfl) (pe_callC C_rests (hr.mono (by omega)) (by rfl) (pa_cons (pv 0) pa_nil)))
      (pss_cons (ps_set (i := 3) sc_reached_stages.nd rfl (Or.inl rfl) (pe_dnewX (P := P) (w := w) (K := K) ⟨rfl, rfl, rfl⟩))
      (pss_cons (ps_set (i := 4) sc_reached_stages.nd rfl (Or.inl rfl) (pe_lst (pa_cons (pe_glob (v := (.ref tf)) (by rfl) T.g_FIRST rfl) pa_nil)))
      (pss_cons (ps_while PassesOwn.never (pt_truth (pv 4) (by intro _; rfl)) (pss_cons (ps_set (i := 5) sc_reached_stages.nd rfl (Or.inl rfl) (pe_lst pa_nil))
      (pss_cons (ps_for PassesOwn.never rfl (pi_list (pv 4)) (pg_name (i := 6) sc_reached_stages.nd rfl (Or.inl rfl)) (pss_one (ps_if (pt_cmp (pc_dnotinX (P := P) (w := w) (K := K) ⟨rfl, rfl, rfl⟩ hu (pv 6) (pv 3))) (pss_cons (ps_dputX (P := P) (w := w) (K := K) ⟨rfl, rfl, rfl⟩ hu (pv 3) (pv 6) (pe_callC C_stage_choices (hr.mono (by omega)) (by rfl) (pa_cons (pv 2) (pa_cons (pv 1) (pa_cons (pv 6) pa_nil)))) rfl)
      (pss_one (ps_expr (pe_bm PySem.F.plainAttrs_list PySem.F.slot_list_extend PySem.F.type_list_extend mt_extend (pv 5) (pa_cons (pe_lc rfl sc_reached_stages.nd (pi_list (pe_dgx (P := P) (w := w) (K := K) ⟨rfl, rfl, rfl⟩ hu (pv 3) (pv 6) (fun _ _ => rfl))) (blkOk_by (own := [("choice", 7)]) (N := ["weights", "limit", "sums", "found", "waiting", "following", "stage", "choice"]) (sc := defScope s_reached_stages) (by decide +kernel)) (fun _ _ _ _ _ => (pg_name (i := 7) sc_reached_stages.nd rfl (Or.inl rfl))) (fun _ _ _ _ _ => (pts_one (pt_cmpR op_notN (pe_ix (ix_tupK (K := K) rfl) (pv 7) pe_int (fun _ _ => rfl)) pe_non (nomark _)))) (fun _ _ _ _ _ => (pe_ix (ix_tupK (K := K) rfl) (pv 7) pe_int (fun _ _ => rfl)))) pa_nil))))) pss_nil)))
      (pss_one (ps_set (i := 4) sc_reached_stages.nd rfl (Or.inl rfl) (pv 5))))))
      (pss_one (ps_ret (pv 3))))))), ?_⟩
    have hn1 : 1 ≤ nN (sumsL ws) := by have := hw.n1; rw [nN_sums]; omega
    have hn2 : nN (sumsL ws) ≤ 16 := by have := hw.n2; rw [nN_sums]; omega
    have hL1 : (1 : Int) ≤ L := by have := hw.l1; omega
    have hL2 : (L : Int) ≤ 16 := by have := hw.l2; omega
    refine q_asgL (el_call (ea1 (ev_var rfl)) (spl_sums hw.sq (by have := hw.n2; omega))) fun ls H1 hls e1 h1 => ?_
    refine q_dnew (K := K) fun d H2 hd2 e2 hda => ?_
    have hd0 : H d = none := fresh_back e1 hd2
    refine q_asgL (el_lst (ea1 ev_c) (by show 1 ≤ 100000; decide)) fun wa H3 hwa e3 h3 => ?_
    refine q_while (fun m σ H' => ∃ (t : Nat) (wa : Addr) (wv : List V) (W : List Stg) (kvs : List (List Key × V)) (ss : List Stg) (a b c : Option V), m = L + 1 - t ∧ σ = [some (.ref l), some (.int (L : Int)), some (.ref ls), some (.ref d), some (.ref wa), a, b, c] ∧ RW P w K ws L H H' ls d kvs ss ∧
        H' wa = some (.lst wv) ∧ DpAll K H' wv (W.map stD) ∧ Lv (sumsL ws) L t W ∧ Inl (sumsL ws) L t W 0 ss []) (L + 1)
      ⟨0, wa, _, [(0, 0, 1)], [], [], none, none, none, rfl, rfl, ⟨(e1.trans e2).trans e3, (e2.trans e3) _ _ h1, hda.ext e3, .nil⟩, h3, .cons (stD_mk (s := (0, 0, 1)) (T.st _)) .nil, lv_zero hL1 hn1, inl_zero hL1 hn1⟩ ?_
    rintro m σ H' ⟨t, wa, wv, W, kvs, ss, a, b, c, rfl, rfl, rw, hwa, hwd, lv, inl⟩
    refine ⟨_, et_truL (ev_var rfl) (sq_of hwa), fun hb H4 e4 => ?_, fun hb H4 e4 => ?_⟩
    · have hWl : wv.length = W.length := by rw [DpAll.len hwd, List.length_map]
      have hWne : W ≠ [] := fun z => by
        rw [z] at hWl
        have : wv = [] := List.eq_nil_of_length_eq_zero hWl
        rw [this] at hb
        simp at hb
      have htL := lv_end hL1 hn1 lv hWne
      refine ⟨fun σ H' => ∃ (wa : Addr) (wv : List V) (W : List Stg) (kvs : List (List Key × V)) (ss : List Stg) (a b c : Option V), σ = [some (.ref l), some (.int (L : Int)), some (.ref ls), some (.ref d), some (.ref wa), a, b, c] ∧ RW P w K ws L H H' ls d kvs ss ∧
        H' wa = some (.lst wv) ∧ DpAll K H' wv (W.map stD) ∧ Lv (sumsL ws) L (t + 1) W ∧ Inl (sumsL ws) L (t + 1) W 0 ss [], fun σ2 H2 ⟨wa, wv, W, kvs, ss, a, b, c, h⟩ => ⟨L + 1 - (t + 1), by omega, t + 1, wa, wv, W, kvs, ss, a, b, c, rfl, h⟩, ?_⟩
      refine q_asgL (el_lst ea_nil (by decide)) fun p H5 hp e5 h5 => ?_
      have r5 := rw.go (e4.trans e5)
      have r4 := rw.go e4
      have hwp : wa ≠ p := fun z => by rw [← z, e4 _ _ hwa] at hp; cases hp
      have hlp : ls ≠ p := fun z => by rw [← z, r4.sq] at hp; cases hp
      have hdp : d ≠ p := fun z => by
        obtain ⟨φ, e⟩ := r4.da.isX
        rw [z, hp] at e
        cases e
      have hp0 : H p = none := fresh_back r4.ex hp
      have hw5 : SqL K H5 wa wv := sq_of (e5 _ _ (e4 _ _ hwa))
      refine q_forLn (ev_var rfl) hw5
        (fun i σ H' => ∃ (kvs : List (List Key × V)) (ss Fw : List Stg) (fv : List V) (b c : Option V), σ = [some (.ref l), some (.int (L : Int)), some (.ref ls), some (.ref d), some (.ref wa), some (.ref p), b, c] ∧ RW P w K ws L H H' ls d kvs ss ∧
          H' wa = some (.lst wv) ∧ DpAll K H' wv (W.map stD) ∧ H' p = some (.lst fv) ∧ DpAll K H' fv (Fw.map stD) ∧ Inl (sumsL ws) L t W i ss Fw ∧ ∀ kv ∈ kvs, kv.2 ≠ .ref p)
        (fun H6 e6 => ⟨kvs, ss, [], [], b, c, rfl, r5.go e6, e6 _ _ (e5 _ _ (e4 _ _ hwa)), DpAll.ext ((e4.trans e5).trans e6) _ _ hwd, e6 _ _ h5, .nil, inl, rch_ref hp r4.rc⟩)
        (fun i σ H' _ hP => by
          obtain ⟨_, _, _, _, _, _, _, _, z, _⟩ := hP
          exact sq_of z) ?_ ?_
      · rintro i x σ H6 hx ⟨kvs, ss, Fw, fv, b, c, rfl, r6, hwa6, hwd6, hp6, hfd, inl, hnp⟩
        obtain ⟨dd, hdd, hxd⟩ := dp_get hwd6 hx
        obtain ⟨sg, hsg, rfl⟩ : ∃ sg, W[i]? = some sg ∧ dd = stD sg := by
          rw [List.getElem?_map] at hdd
          cases e : W[i]? with
          | none => rw [e] at hdd; cases hdd
          | some sg => rw [e] at hdd; exact ⟨sg, rfl, (Option.some.inj hdd).symm⟩
        obtain ⟨tt, rfl, hst⟩ := stD_at hxd
        have hreach := ((lv sg).mp (List.mem_of_getElem? hsg)).1
        obtain ⟨hok, hk16⟩ := hreach.ok hL1 hn1
        have hmem := rch_mem r6.rc sg
        refine s_when (et_B (ev_dnotinX (ev_var rfl) (ev_var rfl) r6.da (k := keyS sg) hst)) (fun hb H7 e7 => ?_) (fun hb H7 e7 => ?_)
        · rw [hmem] at hb
          have hnm : sg ∉ ss := by simpa using hb
          have hvn : valV kvs (keyS sg) = none := by
            cases e : valV kvs (keyS sg) with
            | none => rfl
            | some y => rw [e] at hmem; simp [hnm] at hmem
          have hkl : kvs.length ≤ 4913 := by
            rw [Paired.length r6.rc]
            refine few hL1 hL2 hn1 hn2 inl.nd fun s hs => ?_
            rcases (inl.iff s).mp hs with z | z
            · exact z.1
            · exact ((lv s).mp (List.mem_of_mem_take z)).1
          have r7 := r6.go e7
          have hst7 := ex_t e7 hst
          refine q_dputLD (k := keyS sg) (eld_call (ea3 (ev_var rfl) (ev_var rfl) (ev_var rfl)) (spd_ch (sq_of r7.sq) hst7 hok (by rw [sumsL_len]; have := hw.n2; omega) (by omega))) (ev_var rfl) (ev_var rfl) r7.da hst7 (by omega) fun cl vs H8 H9 hcl e8 hcv hcd hd9 hk9 => ?_
          rw [putK_new _ hvn] at hd9
          obtain ⟨φ, hφ⟩ := (r7.da.ext e8).isX
          have hclp : cl ≠ p := fun z => by rw [z, e7 _ _ hp6] at hcl; cases hcl
          have nd : ∀ {a : Addr} {ys : List V}, H8 a = some (.lst ys) → H9 a = some (.lst ys) := fun {a ys} h => by
            rw [hk9 a fun z => by rw [z, hφ] at h; cases h]
            exact h
          have kt : ∀ b ys, SqT K H8 b ys → SqT K H9 b ys := fun b ys => sqt_but hφ hk9
          have hp8 := e8 _ _ (e7 _ _ hp6)
          have hfl : fv.length = Fw.length := by rw [DpAll.len hfd, List.length_map]
          have hcd9 := DpAll.keepT kt _ _ (chsD_noList _) hcd
          obtain ⟨ns, hn1', hn2', hns⟩ := chs_split hcd9
          have hgl := go_list (cs := chS (sumsL ws) L sg) (ns := ns) (fun i c hc => by
            obtain ⟨t, n, _, h2, _, h4⟩ := hns i c hc
            exact ⟨n, h2, h4⟩) _ (Nat.le_refl _)
          rw [List.take_length] at hgl
          have hgv : (given vs.length (isGo (chS (sumsL ws) L sg)) fun j => ns.getD j .non).length ≤ 20 := by
            rw [hn2', DpAll.len hgl, List.length_map]
            exact nexts_len (by omega)
          have hvp : valV (kvs ++ [(keyS sg, V.ref cl)]) (keyS sg) = some (.ref cl) := by rw [valV_snoc _ _ _ _ hvn, if_pos rfl]
          have hcl16 := ch_len (sums := sumsL ws) (L := L) (d := sg.1) (m := sg.2.1) (k := sg.2.2) (by omega)
          have hcof : ∀ (i : Nat) (x : V), vs[i]? = some x → ∃ (c : Cho) (t : Addr) (n : V), (chS (sumsL ws) L sg)[i]? = some c ∧ x = .ref t ∧ ns[i]? = some n ∧ SqT K H9 t [.int c.1, .int c.2.1, n] ∧ Dp K H9 n (nxD c.2.2) := fun i x hx => by
            have hi : i < (chS (sumsL ws) L sg).length := by rw [← hn2']; exact (List.getElem?_eq_some_iff.mp hx).1
            have hc := List.getElem?_eq_getElem hi
            obtain ⟨t, n, g1, g2, g3, g4⟩ := hns i _ hc
            rw [hx] at g1
            exact ⟨_, t, n, hc, Option.some.inj g1, g2, g3, g4⟩
          refine s_extL (nd hp8) (ev_var rfl) (el_lcL (xs := vs) (isGo (chS (sumsL ws) L sg)) (fun j => ns.getD j .non) (ev_dgx (ev_var rfl) (ev_var rfl) hd9 (k := keyS sg) (kt _ _ (ex_t e8 hst7)) hvp) (sq_of (nd hcv)) (by rw [hn2']; unfold chS; omega) (fun x => rfl)
            (fun i x H1 e1 hx => ?_) (fun i x H1 e1 hx hf => ?_)) (by
              have h1 := inl.len
              rw [hfl]
              rw [Paired.length r6.rc] at hkl
              omega) fun pq H10 hpq e10 h10 => ?_
          · obtain ⟨c, t, n, hc, rfl, hn, hst9, hdn⟩ := hcof i x hx
            refine et_is (et_test (ev_notN (ev_op (ev_var rfl) ev_c (rv_ixT (ex_t e1 hst9) rfl)) ev_c)) ?_
            rw [nx_is hdn]
            unfold isGo
            rw [hc]
            show (!c.2.2.isNone) = c.2.2.isSome
            cases c.2.2 <;> rfl
          · obtain ⟨c, t, n, hc, rfl, hn, hst9, hdn⟩ := hcof i x hx
            refine ev_is (ev_op (ev_var rfl) ev_c (rv_ixT (ex_t e1 hst9) rfl)) ?_
            rw [List.getD_eq_getElem?_getD, hn]
            rfl
          · have hp10 := e10 _ _ (nd hp8)
            have hnp' : ∀ kv ∈ kvs ++ [(keyS sg, V.ref cl)], kv.2 ≠ .ref p := fun kv hk => by
              rcases List.mem_append.mp hk with z | z
              · exact hnp kv z
              · rw [List.mem_singleton.mp z]
                intro z2
                injection z2 with z2
                exact hclp z2
            have sl : ∀ xs : List Stg, noListAll (xs.map stD) = true := noListAll_map stD_noList
            refine ⟨kvs ++ [(keyS sg, .ref cl)], ss ++ [sg], Fw ++ nexts (sumsL ws) L sg, _, _, c, rfl,
              ⟨Ex.mut ((ex_but (r7.ex.trans e8) hd0 hk9).trans e10) hp0, by rw [upd_ne hlp]; exact e10 _ _ (nd (e8 _ _ r7.sq)), (hd9.ext e10).put hp10, rch_put hp10 hnp' (rch_ext e10 (Paired.snoc (rch_but hφ hk9 (rch_ext e8 r7.rc)) ⟨rfl, cl, vs, rfl, nd hcv, hcd9⟩))⟩,
              by rw [upd_ne hwp]; exact e10 _ _ (nd (e8 _ _ (e7 _ _ hwa6))), DpAll.put hp10 _ _ (sl _) (DpAll.ext e10 _ _ (DpAll.keepT kt _ _ (sl _) (DpAll.ext (e7.trans e8) _ _ hwd6))), upd_same, ?_, inl.new lv hsg hnm (nexts_len (by omega)), hnp'⟩
            rw [List.map_append]
            refine dp_appAll (DpAll.put hp10 _ _ (sl _) (DpAll.ext e10 _ _ (DpAll.keepT kt _ _ (sl _) (DpAll.ext (e7.trans e8) _ _ hfd)))) (DpAll.put hp10 _ _ (sl _) (DpAll.ext e10 _ _ ?_))
            rw [hn2']
            exact hgl
        · rw [hmem] at hb
          have hm : sg ∈ ss := by simpa using hb
          exact ⟨kvs, ss, Fw, fv, _, c, rfl, r6.go e7, e7 _ _ hwa6, DpAll.ext e7 _ _ hwd6, e7 _ _ hp6, DpAll.ext e7 _ _ hfd, inl.old lv hsg hm, hnp⟩
      · rintro σ H6 ⟨kvs, ss, Fw, fv, b, c, rfl, r6, hwa6, hwd6, hp6, hfd, inl, hnp⟩
        rw [hWl] at inl
        obtain ⟨lv2, inl2⟩ := inl.done hL1 hn1 lv
        exact s_asg (ev_var rfl) fun H7 e7 => ⟨p, fv, Fw, kvs, ss, _, _, _, rfl, r6.go e7, e7 _ _ hp6, DpAll.ext e7 _ _ hfd, lv2, inl2 _⟩
    · have hWn : W = [] := by
        have h2 : wv.length = W.length := by rw [DpAll.len hwd, List.length_map]
        have : wv = [] := by simpa using hb
        rw [this] at h2
        exact List.eq_nil_of_length_eq_zero h2.symm
      subst hWn
      have r4 := rw.go e4
      exact s_ret (ev_var rfl) fun H5 e5 => q d kvs ss H5 hd0 (r4.ex.trans e5) (r4.da.ext e5) (rch_ext e5 r4.rc) (rs_of hL1 hn1 lv inl)
end
end K06
set_option Elab.async false
set_option linter.all false
set_option maxRecDepth 100000
set_option maxHeartbeats 4000000
namespace K06
open PySem PySem.Spec PyProof.Rows L2 GX KC Evl M03 M04
def ovI : Option Int → L2.V
  | none => .non
  | some v => .int v
theorem ovI_none (o : Option Int) : decide (ovI o = .non) = o.isNone := by cases o <;> rfl
theorem ovI_inB (o : Option Int) : inB (ovI o) = true := by cases o <;> rfl
theorem fold_some (l : List (Option Int)) : ∀ b : Int, l.foldl oadd (some b) = some ((l.filterMap id).foldl min b) := by
  induction l with
  | nil => intro b; rfl
  | cons x l ih =>
    intro b
    cases x with
    | none => exact ih b
    | some p =>
      show l.foldl oadd (oadd (some b) (some p)) = _
      have e : oadd (some b) (some p) = some (min b p) := by
        unfold oadd
        show (if p < b then some p else some b) = _
        by_cases z : p < b
        · rw [if_pos z, show min b p = p by omega]
        · rw [if_neg z, show min b p = b by omega]
      rw [e, ih]
      rfl
theorem minO_is : ∀ l : List (Option Int), minO (l.filterMap id) = ovI (omin l)
  | [] => rfl
  | none :: l => minO_is l
  | some p :: l => by
    show L2.V.int ((l.filterMap id).foldl min p) = ovI ((l.foldl oadd (some p)))
    rw [fold_some]
    rfl
theorem given_opt (l : List (Option Int)) : ∀ i, i ≤ l.length → given i (fun i => (l.getD i none).isSome) (fun i => ovI (l.getD i none)) = ((l.take i).filterMap id).map L2.V.int
  | 0, _ => rfl
  | i + 1, h => by
    have ih := given_opt l i (by omega)
    have hi : i < l.length := by omega
    have hc : l[i]? = some l[i] := List.getElem?_eq_getElem hi
    have hd : l.getD i none = l[i] := by rw [List.getD_eq_getElem?_getD, hc]; rfl
    generalize l[i] = x at hc hd
    rw [fm_take _ _ hc]
    cases x with
    | none =>
      rw [given_no (by simp only [hd]; rfl), ih]
      simp
    | some p =>
      rw [given_yes (by simp only [hd]; rfl), ih, List.map_append]
      simp only [hd]
      rfl
/-! ### the values as a dict -/
def entV (sums : List Int) (L : Int) (s : Stg) : List Key × L2.V := (keyS s, ovI (M04.V sums L s))
theorem ent_get {sums : List Int} {L : Int} {s : Stg} : ∀ {l : List Stg}, s ∈ l → valV (l.map (entV sums L)) (keyS s) = some (ovI (M04.V sums L s))
  | x :: l, h => by
    rw [List.map_cons]
    by_cases e : s = x
    · subst e
      exact valV_pos rfl
    · rw [valV_neg (fun q => e (keyS_inj q).symm)]
      exact ent_get (by
        rcases List.mem_cons.mp h with q | q
        · exact absurd q e
        · exact q)
theorem ent_none {sums : List Int} {L : Int} {s : Stg} : ∀ {l : List Stg}, s ∉ l → valV (l.map (entV sums L)) (keyS s) = none
  | [], _ => rfl
  | x :: l, h => by
    rw [List.map_cons, valV_neg (fun q => h (by rw [keyS_inj q]; simp))]
    exact ent_none fun z => h (by simp [z])
section
variable {P : Program} {w : World} {K : PySem.W.Frag} {mg : Str → Option Value} {base : Heap}
def spLsum (P : Program) (w : World) (K : PySem.W.Frag) : Sp := fun vs H Q _ => ∃ (x : L2.V) (d : Addr) (c : Cho) (kvs : List (List Key × L2.V)) (g : Stg → Option Int), vs = [x, .ref d] ∧ Dp K H x (chD c) ∧ DAt P w K H d kvs ∧ (∀ s, c.2.2 = some s → valV kvs (keyS s) = some (ovI (g s))) ∧ RetV (ovI (lsum g c)) H Q
theorem ok_least_sum {f : Addr} {fd : FuncData} {k : Nat} (F : Fun K "least_sum" "least_sum" s_least_sum f fd) (B : Bs mg) : FnOk P w K mg base CX0 (k + 1) f fd ["choice", "known"] (spLsum P w K) := by
  refine F.ok sc_least_sum (fun vs H Q E h => ?_) (fun cdv A outer s H vs Q E hr h => ?_)
  · obtain ⟨x, d, c, kvs, g, rfl, _⟩ := h
    rfl
  · obtain ⟨x, d, c, kvs, g, rfl, hx, hd, hv, q⟩ := h
    have hu := lt64 hr.units
    refine ⟨_, (pss_cons (ps_asg (pv 0) (pg_tup rfl (pgs_cons (pg_name (i := 2) sc_least_sum.nd rfl (Or.inl rfl)) (pgs_cons (pg_name (i := 3) sc_least_sum.nd rfl (Or.inl rfl)) (pgs_cons (pg_name (i := 4) sc_least_sum.nd rfl (Or.inl rfl)) pgs_nil)))))
      (pss_cons (ps_if (pt_cmpR op_isN (pv 4) pe_non (nomark _)) (pss_one (ps_ret (pv 3))) pss_nil)
      (pss_cons (ps_if (pt_cmpR op_isN (pe_dgx (P := P) (w := w) (K := K) ⟨rfl, rfl, rfl⟩ hu (pv 1) (pv 4) (fun _ _ => rfl)) pe_non (nomark _)) (pss_one (ps_ret pe_non)) pss_nil)
      (pss_one (ps_ret (pe_op op_add (pv 3) (pe_dgx (P := P) (w := w) (K := K) ⟨rfl, rfl, rfl⟩ hu (pv 1) (pv 4) (fun _ _ => rfl)))))))), ?_⟩
    obtain ⟨t, n, rfl, hst, hn⟩ := ch_at hx
    refine q_unp (ev_var rfl) hst rfl fun H1 e1 => ⟨_, _, rfl, _, _, rfl, _, _, rfl, rfl, ?_⟩
    have hnx := nx_is hn
    refine q_when (et_test (ev_isN (ev_var rfl) ev_c)) (fun hb H2 e2 => ?_) (fun hb H2 e2 => ?_)
    · rw [hnx] at hb
      have e : c.2.2 = none := by simpa using hb
      refine s_ret (ev_var rfl) fun H3 e3 => ?_
      have := q H3 ((e1.trans e2).trans e3)
      unfold lsum at this
      rw [e] at this
      exact this
    · rw [hnx] at hb
      obtain ⟨s', e⟩ : ∃ s', c.2.2 = some s' := by
        cases e : c.2.2 with
        | none => rw [e] at hb; simp at hb
        | some s' => exact ⟨s', rfl⟩
      obtain ⟨t2, rfl, hst2⟩ := nx_some hn e
      have hls : lsum g c = (g s').map (c.2.1 + ·) := by unfold lsum; rw [e]
      rw [hls] at q
      have gv := hv s' e
      refine q_when (et_test (ev_isN (ev_dgx (ev_var rfl) (ev_var rfl) (hd.ext (e1.trans e2)) (k := keyS s') (ex_t (e1.trans e2) hst2) gv) ev_c)) (fun hb H3 e3 => ?_) (fun hb H3 e3 => ?_)
      · rw [ovI_none] at hb
        have eg : g s' = none := by simpa using hb
        rw [eg] at q
        exact s_ret ev_c fun H4 e4 => q H4 (((e1.trans e2).trans e3).trans e4)
      · rw [ovI_none] at hb
        obtain ⟨y, eg⟩ : ∃ y, g s' = some y := by
          cases e : g s' with
          | none => rw [e] at hb; simp at hb
          | some y => exact ⟨y, rfl⟩
        rw [eg] at q gv
        exact s_ret (ev_add (ev_var rfl) (ev_dgx (ev_var rfl) (ev_var rfl) (hd.ext ((e1.trans e2).trans e3)) (k := keyS s') (ex_t ((e1.trans e2).trans e3) hst2) gv)) fun H4 e4 => q H4 (((e1.trans e2).trans e3).trans e4)
theorem spv_lsum {H : Hp} {x : L2.V} {d : Addr} {c : Cho} {kvs : List (List Key × L2.V)} {g : Stg → Option Int} (hx : Dp K H x (chD c)) (hd : DAt P w K H d kvs) (hv : ∀ s, c.2.2 = some s → valV kvs (keyS s) = some (ovI (g s))) : SpV (spLsum P w K) ([x, .ref d] ++ []) H (ovI (lsum g c)) := fun H1 e1 Q q E =>
  ⟨x, d, c, kvs, g, rfl, Dp.ext e1 _ _ hx, hd.ext e1, hv, q⟩
/-- stages given with their choices -/
structure SIn (P : Program) (w : World) (K : PySem.W.Frag) (sums : List Int) (L : Int) (d : Addr) (H : Hp) (kvs : List (List Key × L2.V)) (ss : List Stg) : Prop where
  da : DAt P w K H d kvs
  rc : RCh K sums L H kvs ss
  rs : RS sums L ss
  l1 : 1 ≤ L
  l2 : L ≤ 16
  n1 : 1 ≤ nN sums
  n2 : nN sums ≤ 16
def spVals (P : Program) (w : World) (K : PySem.W.Frag) : Sp := fun vs H Q _ => ∃ (d : Addr) (sums : List Int) (L : Int) (kvs : List (List Key × L2.V)) (ss : List Stg), vs = [.ref d] ∧ SIn P w K sums L d H kvs ss ∧
  ∀ d2 H2, H d2 = none → Ex H H2 → DAt P w K H2 d2 (ss.reverse.map (entV sums L)) → Q (.ref d2) H2
theorem keys_of {sums : List Int} {L : Int} {H : Hp} {kvs : List (List Key × L2.V)} {ss : List Stg} {bs : List Addr} (h1 : IsKeysX K H kvs bs) (h2 : RCh K sums L H kvs ss) : bs.length = ss.length ∧ ∀ (i : Nat) (b : Addr), bs[i]? = some b → ∃ s, ss[i]? = some s ∧ SqT K H b (stV s) := by
  unfold IsKeysX at h1
  induction h2 generalizing bs with
  | nil => cases h1; exact ⟨rfl, fun i b z => by simp at z⟩
  | @cons kv s kvs ss z t ih =>
    cases h1 with
    | cons a r =>
      obtain ⟨g1, g2⟩ := ih r
      refine ⟨by simp [g1], fun i b hb => ?_⟩
      cases i with
      | zero =>
        have := Option.some.inj (show some _ = some b from hb)
        subst this
        rw [z.key] at a
        exact ⟨s, rfl, a⟩
      | succ i => simpa using g2 i b (by simpa using hb)
theorem ok_stage_values {f : Addr} {fd : FuncData} {k : Nat} (F : Fun K "stage_values" "stage_values" s_stage_values f fd) (B : Bs mg) (C_least_sum : Cal P w K mg base "least_sum" 1 ["choice", "known"] (spLsum P w K)) :
    FnOk P w K mg base CX0 (k + 2) f fd ["stages"] (spVals P w K) := by
  refine F.ok sc_stage_values (fun vs H Q E h => ?_) (fun cdv A outer s H vs Q E hr h => ?_)
  · obtain ⟨d, sums, L, kvs, ss, rfl, _⟩ := h
    rfl
  · obtain ⟨d, sums, L, kvs, ss, rfl, hin, q⟩ := h
    have hu64 := hr.units
    have hu := lt64 hr.units
    refine ⟨_, (pss_cons (ps_set (i := 1) sc_stage_values.nd rfl (Or.inr rfl) (pe_dnewX (P := P) (w := w) (K := K) ⟨rfl, rfl, rfl⟩))
      (pss_cons (ps_for PassesOwn.never rfl (pi_reversed (by rfl) B.reversed (pa_cons (pe_callTy (call_list_dX rfl) (by rfl) B.list (by decide +kernel) (pa_cons (pv 0) pa_nil)) pa_nil)) (pg_name (i := 2) sc_stage_values.nd rfl (Or.inl rfl)) (pss_cons (ps_setLc (i := 3) rfl sc_stage_values.nd rfl rfl (sw_true rfl rfl rfl (by decide +kernel)) (pi_list (pe_dgx (P := P) (w := w) (K := K) ⟨rfl, rfl, rfl⟩ hu (pv 0) (pv 2) (fun _ _ => rfl))) (blkOk_by (own := [("choice", 4)]) (N := ["stages", "known", "stage", "sums", "choice", "total"]) (sc := defScope s_stage_values) (by decide +kernel)) (fun _ _ _ _ _ => (pg_name (i := 4) sc_stage_values.nd rfl (Or.inl rfl))) (fun _ _ _ _ _ => pts_nil) (fun _ _ _ _ _ => (pe_callC C_least_sum (hr.mono (by omega)) (by rfl) (pa_cons (pv 4) (pa_cons (pv 1) pa_nil)))))
      (pss_one (ps_dputX (P := P) (w := w) (K := K) ⟨rfl, rfl, rfl⟩ hu (pv 1) (pv 2) (pe_callBK (cr_minN rfl hu64) (by rfl) B.min (by decide +kernel) (pa_cons (pe_lc rfl sc_stage_values.nd (pi_list (pv 3)) (blkOk_by (own := [("total", 5)]) (N := ["stages", "known", "stage", "sums", "choice", "total"]) (sc := defScope s_stage_values) (by decide +kernel)) (fun _ _ _ _ _ => (pg_name (i := 5) sc_stage_values.nd rfl (Or.inl rfl))) (fun _ _ _ _ _ => (pts_one (pt_cmpR op_notN (pv 5) pe_non (nomark _)))) (fun _ _ _ _ _ => (pv 5))) pa_nil) (pk_cons pe_non pk_nil)) rfl))))
      (pss_one (ps_ret (pv 1))))), ?_⟩
    obtain ⟨hda, hrc, hrs, hL1, hL2, hn1, hn2⟩ := hin
    have hkl := Paired.length hrc
    have hfew : ss.length ≤ 4913 := few hL1 hL2 hn1 hn2 hrs.nd fun s hs => (hrs.iff s).mp hs
    refine q_dnew (K := K) fun d2 H1 hd2 e1 hd1 => ?_
    refine q_forRevX (C := fun xs => ∃ bs, xs = bs.map L2.V.ref ∧ IsKeysX K H1 kvs bs)
      (fun Q q => ⟨_, rfl, d, kvs, rfl, hda.ext e1, fun p bs hp hb => q p _ _ hp (Ex.new hp) upd_same ⟨bs, rfl, hb⟩⟩)
      (fun xs p i σ H' => ∃ a b : Option L2.V, σ = [some (.ref d), some (.ref d2), a, b, none, none] ∧ Ex H H' ∧ (∀ b ys, SqT K H1 b ys → SqT K H' b ys) ∧ H' p = some (.lst xs) ∧ DAt P w K H' d2 ((ss.reverse.take i).map (entV sums L)))
      (fun xs p H2 hp e2 h2 hc => ⟨none, none, rfl, e1.trans e2, fun b ys => ex_t e2, h2, hd1.ext e2⟩)
      (fun xs p i σ H' _ hP => by
        obtain ⟨_, _, _, _, _, z, _⟩ := hP
        exact sq_of z) ?_ ?_
    · rintro xs p i x σ H2 ⟨bs, rfl, hbs⟩ hx hi ⟨a, b, rfl, e2, hk2, hp2, hd⟩
      obtain ⟨hbl, hbk⟩ := keys_of hbs (rch_ext e1 hrc)
      rw [List.length_map, hbl] at hx hi
      obtain ⟨b', hb', rfl⟩ : ∃ b', bs[ss.length - 1 - i]? = some b' ∧ L2.V.ref b' = x := by
        rw [List.getElem?_map] at hx
        cases e : bs[ss.length - 1 - i]? with
        | none => rw [e] at hx; cases hx
        | some b' => rw [e] at hx; exact ⟨b', rfl, Option.some.inj hx⟩
      obtain ⟨sg, hsg, hst1⟩ := hbk _ _ hb'
      have hst := hk2 _ _ hst1
      have hsm := List.mem_of_getElem? hsg
      have hreach := (hrs.iff sg).mp hsm
      obtain ⟨hok, hk16⟩ := hreach.ok hL1 hn1
      obtain ⟨cl, vs, hv, hcl, hcd⟩ := rch_val (rch_ext e2 hrc) hsm
      have hrev : ss.reverse[i]? = some sg := by
        rw [List.getElem?_reverse hi]
        exact hsg
      have htk : ss.reverse.take (i + 1) = ss.reverse.take i ++ [sg] := by rw [List.take_succ, hrev]; rfl
      have hrn : ss.reverse.Nodup := (List.reverse_perm ss).nodup_iff.mpr hrs.nd
      have hsn : sg ∉ ss.reverse.take i := fun z => by
        have h2 : (ss.reverse.take (i + 1)).Nodup := hrn.sublist (List.take_sublist _ _)
        rw [htk, List.nodup_append] at h2
        exact h2.2.2 sg z sg (by simp) rfl
      have hsplit : ss = ss.take (ss.length - 1 - i) ++ sg :: ss.drop (ss.length - 1 - i + 1) := by
        have hlt : ss.length - 1 - i < ss.length := by omega
        have h2 : ss[ss.length - 1 - i] = sg := by
          rw [List.getElem?_eq_getElem hlt] at hsg
          exact Option.some.inj hsg
        rw [← h2, ← List.drop_eq_getElem_cons hlt, List.take_append_drop]
      have hbeh : ∀ c ∈ chS sums L sg, ∀ s', c.2.2 = some s' → valV ((ss.reverse.take i).map (entV sums L)) (keyS s') = some (ovI (M04.V sums L s')) := fun c hc s' ec => by
        refine ent_get ?_
        have := hrs.behind hsplit hL1 hn1 hc ec
        have e : ss.reverse.take i = (ss.drop (ss.length - 1 - i + 1)).reverse := by
          have h3 : (ss.drop (ss.length - 1 - i + 1)).reverse.length = i := by rw [List.length_reverse, List.length_drop]; omega
          conv => lhs; rw [hsplit, List.reverse_append, List.reverse_cons, List.append_assoc]
          rw [List.take_left' h3]
        rw [e]
        exact List.mem_reverse.mpr this
      have hvl : vs.length = (chS sums L sg).length := by
        rw [DpAll.len hcd]
        exact List.length_map _
      have hcl16 := ch_len (sums := sums) (L := L) (d := sg.1) (m := sg.2.1) (k := sg.2.2) (by omega)
      have hcl17 : (chS sums L sg).length ≤ 17 := hcl16
      obtain ⟨ls, hls⟩ : ∃ ls, ls = (chS sums L sg).map (lsum (M04.V sums L)) := ⟨_, rfl⟩
      have hlsl : ls.length = (chS sums L sg).length := by rw [hls, List.length_map]
      refine q_asgL (el_lcL (xs := vs) (fun _ => true) (fun j => ovI (ls.getD j none)) (ev_dgx (ev_var rfl) (ev_var rfl) (hda.ext e2) (k := keyS sg) hst hv) (sq_of hcl) (by omega) (fun x => rfl) (fun j y H3 e3 hy => et_yes) (fun j y H3 e3 hy _ => ?_)) fun p3 H3 hp3 e3 h3 => ?_
      · obtain ⟨dd, hdd, hyd⟩ := dp_get hcd hy
        unfold chsD at hdd
        rw [List.getElem?_map] at hdd
        cases e : (chS sums L sg)[j]? with
        | none => rw [e] at hdd; cases hdd
        | some c =>
          rw [e] at hdd
          have hdd := Option.some.inj hdd
          subst hdd
          refine ev_is (ev_call (ea2 (ev_var rfl) (ev_var rfl)) (spv_lsum (Dp.ext e3 _ _ hyd) (hd.ext e3) (hbeh c (List.mem_of_getElem? e)))) ?_
          rw [hls, List.getD_eq_getElem?_getD, List.getElem?_map, e]
          rfl
      · have hga : given vs.length (fun _ => true) (fun j => ovI (ls.getD j none)) = (List.range vs.length).map fun j => ovI (ls.getD j none) := by
          unfold given
          rw [List.filter_eq_self.mpr fun _ _ => rfl]
        have hgl : ((List.range vs.length).map fun j => ovI (ls.getD j none)).length = vs.length := by rw [List.length_map, List.length_range]
        rw [hga] at h3
        have el : EvL _ _ _ _ := el_lcL (K := K) (σ := [some (.ref d), some (.ref d2), some (.ref b'), some (.ref p3), none, none]) (H := H3) (te := tVar 5) (tl := tVar 3) (j := 5) (vs := [5]) (t := tTest (tOp (fun x y H Q => y = .non ∧ Q (.bl (!decide (x = .non))) H) (tVar 5) (tC .non))) (xs := (List.range vs.length).map fun j => ovI (ls.getD j none)) (fun j => (ls.getD j none).isSome) (fun j => ovI (ls.getD j none)) (ev_var rfl) (sq_of h3) (by rw [hgl]; omega) (fun x => rfl) (fun j y H4 e4 hy => by
            have hj : j < vs.length := by have := (List.getElem?_eq_some_iff.mp hy).1; omega
            rw [List.getElem?_map, List.getElem?_range hj] at hy
            have hy := Option.some.inj hy
            subst hy
            refine et_is (et_test (ev_notN (ev_var rfl) ev_c)) ?_
            rw [ovI_none]
            cases ls.getD j none <;> rfl) (fun j y H4 e4 hy _ => by
            have hj : j < vs.length := by have := (List.getElem?_eq_some_iff.mp hy).1; omega
            rw [List.getElem?_map, List.getElem?_range hj] at hy
            have hy := Option.some.inj hy
            subst hy
            exact ev_var rfl)
        have eg := given_opt ls vs.length (by omega)
        rw [hgl, eg, hvl, ← hlsl, List.take_length] at el
        refine s_dput (k := keyS sg) (ev_minN (l := 0) el fun H4 e4 => ev_c) (ev_var rfl) (ev_var rfl) (hd.ext e3) (ex_t e3 hst) (by rw [List.length_map, List.length_take]; omega) fun H4 H5 e4 hd5 hk5 => ?_
        rw [minO_is, hls, ← V_eq hok, putK_new _ (ent_none hsn)] at hd5
        obtain ⟨φ, hφ⟩ := (hd.ext (e3.trans e4)).isX
        have hpd : p ≠ d2 := fun z => by
          have h1 := (e3.trans e4) _ _ hp2
          rw [z, hφ] at h1
          cases h1
        refine ⟨_, _, rfl, ex_but (e2.trans (e3.trans e4)) hd2 hk5, fun b ys hb => sqt_but hφ hk5 (ex_t (e3.trans e4) (hk2 _ _ hb)), by rw [hk5 p hpd]; exact (e3.trans e4) _ _ hp2, ?_⟩
        rw [htk, List.map_append]
        exact hd5
    · rintro xs p σ H2 ⟨bs, rfl, hbs⟩ ⟨a, b, rfl, e2, hk2, hp2, hd⟩
      have hl := (keys_of hbs (rch_ext e1 hrc)).1
      rw [List.length_map, hl, ← List.length_reverse, List.take_length] at hd
      exact s_ret (ev_var rfl) fun H3 e3 => q d2 H3 hd2 (e2.trans e3) (hd.ext e3)
end
end K06
set_option linter.all false
/-! One step of the rule. -/
namespace M04
open M03
structure AtS (ws : List Int) (L : Nat) (s : Stg) (acc : List Int) : Prop where
  re : Reach (sumsL ws) L s
  va : ∃ v, V (sumsL ws) L s = some v
  eq : scat (rankL ws) s.1.toNat s.2.1.toNat (due (sumsL ws) L (L + 1 - s.1.toNat) s) acc = lensW ws L
theorem nN_sums (ws : List Int) : nN (sumsL ws) = ws.length := by
  unfold nN; rw [sumsL_len]; push_cast; omega
theorem AtS.first {ws : List Int} {L : Nat} {v : Int} (hv : V (sumsL ws) L (0, 0, 1) = some v) : AtS ws L (0, 0, 1) (List.replicate ws.length 0) := ⟨.first, ⟨v, hv⟩, rfl⟩
theorem AtS.step {ws : List Int} {L : Nat} {s : Stg} {acc : List Int} (hL : 1 ≤ L) (hn : 1 ≤ ws.length) (h : AtS ws L s acc) : ∃ c, pick (sumsL ws) L s = some c ∧ c ∈ chS (sumsL ws) L s ∧ 0 ≤ c.1 ∧ 0 ≤ s.1 ∧ s.1 ≤ L ∧ 0 ≤ s.2.1 ∧ s.2.1 + c.1 ≤ ws.length ∧
    (c.2.2 = none → wr acc s.1.toNat (((rankL ws).drop s.2.1.toNat).take c.1.toNat) = lensW ws L) ∧ ∀ s', c.2.2 = some s' → s'.1 = s.1 + 1 ∧ AtS ws L s' (wr acc s.1.toNat (((rankL ws).drop s.2.1.toNat).take c.1.toNat)) := by
  obtain ⟨re, ⟨v, hv⟩, eq⟩ := h
  have hnn : 1 ≤ nN (sumsL ws) := by rw [nN_sums]; omega
  obtain ⟨ok, _⟩ := re.ok (by omega) hnn
  have hd := ok.d
  have hm := ok.m
  obtain ⟨c, hp, hc, hs⟩ := pick_some ok hv
  have hic := (ch_mem ok).mp hc
  obtain ⟨t, ht⟩ : ∃ t, L + 1 - s.1.toNat = t + 1 := ⟨L - s.1.toNat, by omega⟩
  rw [ht, due, hp] at eq
  simp only at eq
  refine ⟨c, hp, hc, ?_⟩
  have hb : 0 ≤ c.1 ∧ s.2.1 + c.1 ≤ ws.length ∧ ∀ s', c.2.2 = some s' → s'.1 = s.1 + 1 ∧ s'.2.1 = s.2.1 + c.1 := by
    have e := nN_sums ws
    cases hic with
    | stop h0 h1 h2 h3 => exact ⟨h0, (show s.2.1 + _ ≤ (ws.length : Int) by omega), fun s' z => by cases z⟩
    | go h0 h1 h2 h3 h4 => exact ⟨h0, (show s.2.1 + _ ≤ (ws.length : Int) by omega), fun s' z => by
        have z := Option.some.inj z
        subst z
        exact ⟨rfl, rfl⟩⟩
  refine ⟨hb.1, hd.1, by omega, hm.1, hb.2.1, fun e => ?_, fun s' e => ?_⟩
  · rw [e] at eq
    exact eq
  · rw [e] at eq
    obtain ⟨h1, h2⟩ := hb.2.2 s' e
    refine ⟨h1, .next re hc e, ?_, ?_⟩
    · unfold lsum at hs
      rw [e] at hs
      cases hv2 : V (sumsL ws) L s' with
      | none =>
        have hs : Option.map (fun x => c.2.1 + x) (V (sumsL ws) L s') = some v := hs
        rw [hv2] at hs
        simp at hs
      | some y => exact ⟨y, rfl⟩
    · have e1 : s'.1.toNat = s.1.toNat + 1 := by omega
      have e2 : s'.2.1.toNat = s.2.1.toNat + c.1.toNat := by omega
      have e3 : L + 1 - (s.1.toNat + 1) = t := by omega
      rw [e1, e2, e3]
      exact eq
theorem wr_len (d : Nat) : ∀ (xs : List Nat) (acc : List Int), (wr acc d xs).length = acc.length
  | [], acc => rfl
  | x :: xs, acc => by
    show (wr (acc.set x d) d xs).length = _
    rw [wr_len d xs, List.length_set]
theorem wr_snoc (acc : List Int) (d : Nat) (xs : List Nat) (x : Nat) : wr acc d (xs ++ [x]) = (wr acc d xs).set x d := by
  unfold wr
  rw [List.foldl_append]
  rfl
end M04
set_option Elab.async false
set_option linter.all false
set_option maxRecDepth 100000
set_option maxHeartbeats 4000000
namespace K06
open PySem PySem.Spec PyProof.Rows L2 GX KC Evl M03 M04
theorem flatr (n : Nat) (v : L2.V) : (List.replicate n [v]).flatten = List.replicate n v := by
  induction n with
  | zero => rfl
  | succ n ih => rw [List.replicate_succ, List.flatten_cons, ih]; rfl
theorem cut_mid (xs : List L2.V) {a b : Nat} (h1 : a ≤ b) (h2 : b ≤ xs.length) : cutV xs (some (a : Int)) (some (b : Int)) = (xs.drop a).take (b - a) := by
  unfold cutV
  have e1 : min a xs.length = a := by omega
  have e2 : min b xs.length = b := by omega
  rw [HT.sIx_nat, HT.sIx_nat, e1, e2]
theorem scal_ovI (a b : Option Int) : scal (ovI a) (ovI b) = true := by cases a <;> cases b <;> rfl
theorem dec_ovI (a b : Option Int) : decide (ovI a = ovI b) = decide (a = b) := by
  cases a <;> cases b <;> simp [ovI]
section
variable {P : Program} {w : World} {K : PySem.W.Frag} {mg : Str → Option Value} {base : Heap}
theorem ep_call {σ : L2.St} {H : Hp} {sp : Sp} {dvs vs : List L2.V} {E : XK} {ta : TA} {R : L2.V → Hp → Prop} (h : EvA ta σ H vs) (hs : ∀ H1, Ex H H1 → ∀ Q : VK, (∀ v H2, Ex H1 H2 → R v H2 → Q v H2) → sp (vs ++ dvs) H1 Q E) : EvP (tCall sp dvs E ta) σ H R := fun H1 e Q q =>
  h H1 e _ fun H2 e2 => hs H2 (e.trans e2) Q fun v H3 e3 r => q v H3 (e2.trans e3) r
theorem ep_reach {σ : L2.St} {H : Hp} {l : Addr} {ws : List Int} {L : Nat} {E : XK} {ta : TA} (hw : WIn K ws L l H) (h : EvA ta σ H [.ref l, .int (L : Int)]) : EvP (tCall (spReach P w K) [] E ta) σ H (fun v H2 => ∃ d kvs ss, v = .ref d ∧ H d = none ∧ DAt P w K H2 d kvs ∧ RCh K (sumsL ws) L H2 kvs ss ∧ RS (sumsL ws) L ss) :=
  ep_call h fun H1 e1 Q q => ⟨l, ws, L, rfl, hw.ext e1, fun d kvs ss H2 hd e2 h1 h2 h3 => q _ H2 e2 ⟨d, kvs, ss, rfl, fresh_back e1 hd, h1, h2, h3⟩⟩
theorem sin_of {H : Hp} {l d : Addr} {ws : List Int} {L : Nat} {kvs : List (List Key × L2.V)} {ss : List Stg} (hw : WIn K ws L l H) (h1 : DAt P w K H d kvs) (h2 : RCh K (sumsL ws) L H kvs ss) (h3 : RS (sumsL ws) L ss) : SIn P w K (sumsL ws) L d H kvs ss := by
  have a := hw.n1
  have b := hw.n2
  have c := hw.l1
  have e := hw.l2
  exact ⟨h1, h2, h3, by omega, by omega, by rw [nN_sums]; omega, by rw [nN_sums]; omega⟩
theorem ep_vals {σ : L2.St} {H : Hp} {d : Addr} {sums : List Int} {L : Int} {E : XK} {ta : TA} {kvs : List (List Key × L2.V)} {ss : List Stg} (hs : SIn P w K sums L d H kvs ss) (h : EvA ta σ H [.ref d]) : EvP (tCall (spVals P w K) [] E ta) σ H (fun v H2 => ∃ d2, v = .ref d2 ∧ H d2 = none ∧ DAt P w K H2 d2 (ss.reverse.map (entV sums L))) :=
  ep_call h fun H1 e1 Q q => ⟨d, sums, L, kvs, ss, rfl, ⟨hs.da.ext e1, rch_ext e1 hs.rc, hs.rs, hs.l1, hs.l2, hs.n1, hs.n2⟩, fun d2 H2 hd e2 h1 => q _ H2 e2 ⟨d2, rfl, fresh_back e1 hd, h1⟩⟩
def spValues (P : Program) (w : World) (K : PySem.W.Frag) : Sp := fun vs H Q _ => ∃ (l : Addr) (ws : List Int) (L : Nat), vs = [.ref l, .int (L : Int)] ∧ WIn K ws L l H ∧
  ∀ d ss H2, H d = none → Ex H H2 → RS (sumsL ws) L ss → DAt P w K H2 d (ss.reverse.map (entV (sumsL ws) L)) → Q (.ref d) H2
theorem ok_values {f : Addr} {fd : FuncData} {k : Nat} (F : Fun K "values" "values" s_values f fd) (B : Bs mg) (C_reached_stages : Cal P w K mg base "reached_stages" 3 ["weights", "limit"] (spReach P w K)) (C_stage_values : Cal P w K mg base "stage_values" 2 ["stages"] (spVals P w K)) :
    FnOk P w K mg base CX0 (k + 4) f fd ["weights", "limit"] (spValues P w K) := by
  refine F.ok sc_values (fun vs H Q E h => ?_) (fun cdv A outer s H vs Q E hr h => ?_)
  · obtain ⟨l, ws, L, rfl, _⟩ := h
    rfl
  · obtain ⟨l, ws, L, rfl, hw, q⟩ := h
    refine ⟨_, (pss_one (ps_ret (pe_callC C_stage_values (hr.mono (by omega)) (by rfl) (pa_cons (pe_callC C_reached_stages (hr.mono (by omega)) (by rfl) (pa_cons (pv 0) (pa_cons (pv 1) pa_nil))) pa_nil)))), ?_⟩
    refine ep_reach hw (ea2 (ev_var rfl) (ev_var rfl)) H (Ex.refl H) _ fun v H1 e1 ⟨d, kvs, ss, ev, hd, h1, h2, h3⟩ => ?_
    subst ev
    have hs := sin_of (hw.ext e1) h1 h2 h3
    exact ⟨d, sumsL ws, L, kvs, ss, rfl, hs, fun d2 H2 hd2 e2 h4 => q d2 ss H2 (fresh_back e1 hd2) (e1.trans e2) h3 h4⟩
/-! ### what fits, kept -/
theorem keep_list {H : Hp} {vs : List L2.V} {cs : List Cho} (p : Cho → Bool) (hd : DpAll K H vs (chsD cs)) : ∀ i, i ≤ cs.length → DpAll K H (given i (fun j => match cs[j]? with | some c => p c | none => false) fun j => vs.getD j .non) (chsD ((cs.take i).filter p))
  | 0, _ => .nil
  | i + 1, h => by
    have ih := keep_list p hd i (by omega)
    have hi : i < cs.length := by omega
    have hc : cs[i]? = some cs[i] := List.getElem?_eq_getElem hi
    generalize cs[i] = c at hc
    have hvl : vs.length = cs.length := by rw [DpAll.len hd]; exact List.length_map _
    have hv : vs[i]? = some (vs.getD i .non) := by
      rw [List.getD_eq_getElem?_getD, List.getElem?_eq_getElem (by omega)]
      rfl
    obtain ⟨dd, h1, h2⟩ := dp_get hd hv
    unfold chsD at h1
    rw [List.getElem?_map, hc] at h1
    have h1 := Option.some.inj h1
    subst h1
    rw [List.take_succ, hc]
    cases e : p c with
    | true =>
      rw [given_yes (by simp only [hc]; exact e), List.filter_append]
      unfold chsD
      rw [List.map_append]
      refine dp_appAll ih ?_
      show DpAll K H _ (([c].filter p).map chD)
      rw [List.filter_cons, if_pos e]
      exact .cons h2 .nil
    | false =>
      rw [given_no (by simp only [hc]; exact e), List.filter_append]
      have e2 : ([c].filter p) = [] := by rw [List.filter_cons, if_neg (by rw [e]; exact Bool.false_ne_true)]; rfl
      show DpAll K H _ (chsD ((cs.take i).filter p ++ [c].filter p))
      rw [e2, List.append_nil]
      exact ih
theorem dp_last {H : Hp} {ys : List L2.V} {cs : List Cho} {c : Cho} (h : DpAll K H ys (chsD cs)) (hc : cs.getLast? = some c) : ∃ y, atI ys (-1) = some y ∧ Dp K H y (chD c) := by
  have hne : cs ≠ [] := fun z => by rw [z] at hc; cases hc
  have hl : ys.length = cs.length := by rw [DpAll.len h]; exact List.length_map _
  have hpos := List.length_pos_iff.mpr hne
  have hyne : ys ≠ [] := fun z => by rw [z] at hl; simp at hl; omega
  have hget : ys[ys.length - 1]? = some (ys.getLast hyne) := by rw [List.getLast_eq_getElem, List.getElem?_eq_getElem]
  obtain ⟨dd, h1, h2⟩ := dp_get h hget
  have h3 : cs[cs.length - 1]? = some c := by rw [← List.getLast?_eq_getElem?]; exact hc
  unfold chsD at h1
  rw [List.getElem?_map, hl, h3] at h1
  have h1 := Option.some.inj h1
  subst h1
  refine ⟨_, ?_, h2⟩
  have e : ys = ys.dropLast ++ [ys.getLast hyne] := (List.dropLast_concat_getLast hyne).symm
  conv => lhs; rw [e]
  exact atI_last _ _
def spLL (P : Program) (w : World) (K : PySem.W.Frag) (Pt : Addr) : Sp := fun vs H Q _ => ∃ (l : Addr) (ws : List Int) (L : Nat), vs = [.ref l, .int (L : Int)] ∧ WIn K ws L l H ∧ (∃ v, M04.V (sumsL ws) L (0, 0, 1) = some v) ∧ H Pt = some (TabX Pt) ∧ RetL ((lensW ws L).map L2.V.int) H Q
theorem ok_least_lengths {f : Addr} {fd : FuncData} {k : Nat} {tf Pt : Addr} (T : GF K mg tf) (F : Fun K "least_lengths" "least_lengths" s_least_lengths f fd) (B : Bs mg) (C_reached_stages : Cal P w K mg base "reached_stages" 3 ["weights", "limit"] (spReach P w K)) (C_stage_values : Cal P w K mg base "stage_values" 2 ["stages"] (spVals P w K))
    (C_ranks : Cal P w K mg base "ranks" 7 ["weights"] (spRanksP K Pt)) (C_least_sum : Cal P w K mg base "least_sum" 1 ["choice", "known"] (spLsum P w K)) :
    FnOk P w K mg base CX0 (k + 8) f fd ["weights", "limit"] (spLL P w K Pt) := by
  refine F.ok sc_least_lengths (fun vs H Q E h => ?_) (fun cdv A outer s H vs Q E hr h => ?_)
  · obtain ⟨l, ws, L, rfl, _⟩ := h
    rfl
  · obtain ⟨l, ws, L, rfl, hw, ⟨v0, hv0⟩, htab, q⟩ := h
    have hu := lt64 hr.units
    refine ⟨_, (pss_cons (ps_set (i := 2) sc_least_lengths.nd rfl (Or.inl rfl) (pe_callC C_reached_stages (hr.mono (by omega)) (by rfl) (pa_cons (pv 0) (pa_cons (pv 1) pa_nil))))
      (pss_cons (ps_set (i := 3) sc_least_lengths.nd rfl (Or.inr rfl) (pe_callC C_stage_values (hr.mono (by omega)) (by rfl) (pa_cons (pv 2) pa_nil)))
      (pss_cons (ps_if (pt_cmpR op_isN (pe_dgx (P := P) (w := w) (K := K) ⟨rfl, rfl, rfl⟩ hu (pv 3) (pe_glob (v := (.ref tf)) (by rfl) T.g_FIRST rfl) (fun _ _ => rfl)) pe_non (nomark _)) (pss_one (ps_ret pe_non)) pss_nil)
      (pss_cons (ps_set (i := 4) sc_least_lengths.nd rfl (Or.inl rfl) (pe_callC C_ranks (hr.mono (by omega)) (by rfl) (pa_cons (pv 0) pa_nil)))
      (pss_cons (ps_set (i := 5) sc_least_lengths.nd rfl (Or.inl rfl) (pe_op op_rep (pe_lst (pa_cons pe_int pa_nil)) (pe_callB call_len_seq (by rfl) B.len PySem.boot_len (pa_cons (pv 0) pa_nil))))
      (pss_cons (ps_set (i := 6) sc_least_lengths.nd rfl (Or.inr rfl) (pe_glob (v := (.ref tf)) (by rfl) T.g_FIRST rfl))
      (pss_cons (ps_while PassesOwn.never (pt_cmpR op_notN (pv 6) pe_non (nomark _)) (pss_cons (ps_asg (pv 6) (pg_tup rfl (pgs_cons (pg_name (i := 7) sc_least_lengths.nd rfl (Or.inl rfl)) (pgs_cons (pg_name (i := 8) sc_least_lengths.nd rfl (Or.inl rfl)) (pgs_cons (pg_name (i := 9) sc_least_lengths.nd rfl (Or.inl rfl)) pgs_nil)))))
      (pss_cons (ps_setLc (i := 10) rfl sc_least_lengths.nd rfl rfl (sw_true rfl rfl rfl (by decide +kernel)) (pi_list (pe_dgx (P := P) (w := w) (K := K) ⟨rfl, rfl, rfl⟩ hu (pv 2) (pv 6) (fun _ _ => rfl))) (blkOk_by (own := [("choice", 11)]) (N := ["weights", "limit", "stages", "known", "order", "lengths", "stage", "depth", "m", "_", "best", "choice", "a", "symbol"]) (sc := defScope s_least_lengths) (by decide +kernel)) (fun _ _ _ _ _ => (pg_name (i := 11) sc_least_lengths.nd rfl (Or.inl rfl))) (fun _ _ _ _ _ => (pts_one (pt_cmpR op_eq (pe_callC C_least_sum (hr.mono (by omega)) (by rfl) (pa_cons (pv 11) (pa_cons (pv 3) pa_nil))) (pe_dgx (P := P) (w := w) (K := K) ⟨rfl, rfl, rfl⟩ hu (pv 3) (pv 6) (fun _ _ => rfl)) (nomark _)))) (fun _ _ _ _ _ => (pv 11)))
      (pss_cons (ps_asg (pe_ix ix_list (pv 10) (pe_un un_neg pe_int) (fun _ _ => rfl)) (pg_tup rfl (pgs_cons (pg_name (i := 12) sc_least_lengths.nd rfl (Or.inl rfl)) (pgs_cons (pg_name (i := 9) sc_least_lengths.nd rfl (Or.inl rfl)) (pgs_cons (pg_name (i := 6) sc_least_lengths.nd rfl (Or.inr rfl)) pgs_nil)))))
      (pss_one (ps_for PassesOwn.never rfl (pi_list (pe_slice sl_list (pv 4) (po_some (pv 8)) (po_some (pe_op op_add (pv 8) (pv 12))))) (pg_name (i := 13) sc_least_lengths.nd rfl (Or.inl rfl)) (pss_one (ps_asg (pv 7) (pg_sub (pv 5) (pv 13) set_list)))))))))
      (pss_one (ps_ret (pv 5)))))))))), ?_⟩
    have hn1 : 1 ≤ nN (sumsL ws) := by have := hw.n1; rw [nN_sums]; omega
    have hn2 : nN (sumsL ws) ≤ 16 := by have := hw.n2; rw [nN_sums]; omega
    have hL1 : (1 : Int) ≤ L := by have := hw.l1; omega
    have hL2 : (L : Int) ≤ 16 := by have := hw.l2; omega
    refine q_asgP (ep_reach hw (ea2 (ev_var rfl) (ev_var rfl))) fun v H1 e1 ⟨d, kvs, ss, ev, hd, hda, hrc, hrs⟩ => ?_
    subst ev
    refine q_asgP (ep_vals (sin_of (hw.ext e1) hda hrc hrs) (ea1 (ev_var rfl))) fun v H2 e2 ⟨d2, ev, hd2, hda2⟩ => ?_
    subst ev
    have kget : ∀ s, Reach (sumsL ws) L s → valV (ss.reverse.map (entV (sumsL ws) L)) (keyS s) = some (ovI (M04.V (sumsL ws) L s)) := fun s r => ent_get (List.mem_reverse.mpr ((hrs.iff s).mpr r))
    refine q_when (et_test (ev_isN (ev_dgx (ev_var rfl) ev_c hda2 (k := keyS (0, 0, 1)) (T.st _) (kget _ .first)) ev_c)) (fun hb H3 e3 => ?_) (fun hb H3 e3 => ?_)
    · rw [hv0] at hb
      exact absurd hb (by simp [ovI])
    · have e13 := (e1.trans e2).trans e3
      refine q_asgL (el_call (ea1 (ev_var rfl)) fun H4 e4 Q q E => ⟨l, ws, rfl, ex_l (e13.trans e4) hw.sq, by have := hw.n2; omega, (e13.trans e4) _ _ htab, fun p H5 hp e5 h5 => q p H5 hp e5 h5⟩) fun lo H4 hlo e4 h4 => ?_
      refine q_asgL (el_rep (el_lst (ea1 ev_c) (by decide)) (ev_len (ev_var rfl) (ex_l (e13.trans e4) hw.sq)) ⟨by omega, by rw [List.length_map]; have := hw.n2; omega⟩ (by decide)) fun ll H5 hll e5 h5 => ?_
      rw [flatr, List.length_map, Int.toNat_natCast, ← List.map_replicate (f := L2.V.int) (a := 0)] at h5
      refine q_asg ev_c fun H6 e6 => ?_
      have e14 := e13.trans e4
      have hll0 : H ll = none := fresh_back e14 hll
      have e26 := ((e3.trans e4).trans e5).trans e6
      have hnl : ∀ kv ∈ kvs, kv.2 ≠ .ref ll := rch_ref hll (rch_ext ((e2.trans e3).trans e4) hrc)
      have hlol : lo ≠ ll := fun z => by rw [← z, h4] at hll; cases hll
      have hrl : (rankL ws).length = ws.length := rank_len ws
      have hord : ∀ x ∈ rankL ws, x < ws.length := fun x hx => rank_lt hx
      refine q_while (fun m σ H' => ∃ (x : L2.V) (acc : List Int) (a b c e g h : Option L2.V), σ = [some (.ref l), some (.int (L : Int)), some (.ref d), some (.ref d2), some (.ref lo), some (.ref ll), some x, a, b, c, e, none, g, h] ∧ Ex H H' ∧ DAt P w K H' d kvs ∧ RCh K (sumsL ws) L H' kvs ss ∧ DAt P w K H' d2 (ss.reverse.map (entV (sumsL ws) L)) ∧
          H' lo = some (.lst (nats (rankL ws))) ∧ H' ll = some (.lst (acc.map L2.V.int)) ∧ acc.length = ws.length ∧ ((x = .non ∧ acc = lensW ws L ∧ m = 0) ∨ ∃ (s : Stg) (t : Addr), x = .ref t ∧ SqT K H' t (stV s) ∧ AtS ws L s acc ∧ m = L + 2 - s.1.toNat)) (L + 2)
        ⟨.ref tf, List.replicate ws.length 0, none, none, none, none, none, none, rfl, (e14.trans e5).trans e6, hda.ext (e2.trans e26), rch_ext (e2.trans e26) hrc, hda2.ext e26, (e5.trans e6) _ _ h4, e6 _ _ h5, List.length_replicate, .inr ⟨(0, 0, 1), tf, rfl, T.st _, AtS.first hv0, rfl⟩⟩ ?_
      rintro m σ H' ⟨x, acc, a, b, c, e, g, h, rfl, ex, da, rc, da2, hlo', hll', hal, hx⟩
      refine ⟨_, et_test (ev_notN (ev_var rfl) ev_c), fun hb H7 e7 => ?_, fun hb H7 e7 => ?_⟩
      · rcases hx with ⟨rfl, _⟩ | ⟨s, t, rfl, hst, ats, rfl⟩
        · simp at hb
        obtain ⟨ch, hp, hc, c0, s0, sL, m0, mn, hnone, hsome⟩ := ats.step hw.l1 hw.n1
        have hre := ats.re
        obtain ⟨hok, hk16⟩ := hre.ok hL1 hn1
        refine ⟨fun σ2 H2 => ∃ m', m' < L + 2 - s.1.toNat ∧ ∃ (x : L2.V) (acc : List Int) (a b c e g h : Option L2.V), σ2 = [some (.ref l), some (.int (L : Int)), some (.ref d), some (.ref d2), some (.ref lo), some (.ref ll), some x, a, b, c, e, none, g, h] ∧ Ex H H2 ∧ DAt P w K H2 d kvs ∧ RCh K (sumsL ws) L H2 kvs ss ∧ DAt P w K H2 d2 (ss.reverse.map (entV (sumsL ws) L)) ∧
          H2 lo = some (.lst (nats (rankL ws))) ∧ H2 ll = some (.lst (acc.map L2.V.int)) ∧ acc.length = ws.length ∧ ((x = .non ∧ acc = lensW ws L ∧ m' = 0) ∨ ∃ (s : Stg) (t : Addr), x = .ref t ∧ SqT K H2 t (stV s) ∧ AtS ws L s acc ∧ m' = L + 2 - s.1.toNat), fun _ _ h => h, ?_⟩
        refine q_unp (ev_var rfl) (ex_t e7 hst) rfl fun H8 e8 => ⟨_, _, rfl, _, _, rfl, _, _, rfl, rfl, ?_⟩
        have e78 := e7.trans e8
        have hst8 := ex_t e78 hst
        have da8 := da.ext e78
        have da28 := da2.ext e78
        obtain ⟨cl, vs, hv, hcl, hcd⟩ := rch_val (rch_ext e78 rc) ((hrs.iff s).mpr hre)
        have hvl : vs.length = (chS (sumsL ws) L s).length := by
          rw [DpAll.len hcd]
          exact List.length_map _
        have hcl16 := ch_len (sums := sumsL ws) (L := L) (d := s.1) (m := s.2.1) (k := s.2.2) (by omega)
        have hcl17 : (chS (sumsL ws) L s).length ≤ 17 := hcl16
        obtain ⟨p, hpd⟩ : ∃ p : Cho → Bool, p = fun c => decide (lsum (M04.V (sumsL ws) L) c = M04.V (sumsL ws) L s) := ⟨_, rfl⟩
        have hcs : ∀ (j : Nat) (y : L2.V), vs[j]? = some y → ∃ c, (chS (sumsL ws) L s)[j]? = some c ∧ Dp K H8 y (chD c) := fun j y hy => by
          obtain ⟨dd, hdd, hyd⟩ := dp_get hcd hy
          unfold chsD at hdd
          rw [List.getElem?_map] at hdd
          cases e : (chS (sumsL ws) L s)[j]? with
          | none => rw [e] at hdd; cases hdd
          | some c =>
            rw [e] at hdd
            have hdd := Option.some.inj hdd
            subst hdd
            exact ⟨c, rfl, hyd⟩
        refine q_asgL (el_lcL (xs := vs) (fun j => match (chS (sumsL ws) L s)[j]? with | some c => p c | none => false) (fun j => vs.getD j .non) (ev_dgx (ev_var rfl) (ev_var rfl) da8 (k := keyS s) hst8 hv) (sq_of hcl) (by omega) (fun x => rfl) (fun j y H9 e9 hy => ?_) (fun j y H9 e9 hy _ => ?_)) fun pb H9 hpb e9 h9 => ?_
        · obtain ⟨c, hcj, hyd⟩ := hcs j y hy
          refine et_is (et_test (ev_op (ev_call (ea2 (ev_var rfl) (ev_var rfl)) (spv_lsum (g := M04.V (sumsL ws) L) (Dp.ext e9 _ _ hyd) (da28.ext e9) fun s' e => kget s' (.next hre (List.mem_of_getElem? hcj) e))) (ev_dgx (ev_var rfl) (ev_var rfl) (da28.ext e9) (k := keyS s) (ex_t e9 hst8) (kget s hre)) (rv_eq (scal_ovI _ _)))) ?_
          rw [dec_ovI, hpd]
          show _ = match (chS (sumsL ws) L s)[j]? with | some c => decide (lsum (M04.V (sumsL ws) L) c = M04.V (sumsL ws) L s) | none => false
          rw [hcj]
        · refine ev_is (ev_var rfl) ?_
          rw [List.getD_eq_getElem?_getD, hy]
          rfl
        · have hkl := keep_list p hcd _ (Nat.le_refl _)
          rw [List.take_length, ← hvl] at hkl
          have hkl9 := DpAll.ext e9 _ _ hkl
          have hgl : ((chS (sumsL ws) L s).filter p).getLast? = some ch := by rw [hpd]; exact hp
          obtain ⟨y, hya, hyd⟩ := dp_last hkl9 hgl
          obtain ⟨tc, n, rfl, hsc, hnd⟩ := ch_at hyd
          refine q_unp (ev_op (ev_var rfl) (ev_un ev_c ru_neg) (rv_ixL (sq_of h9) hya)) hsc rfl fun H10 e10 => ⟨_, _, rfl, _, _, rfl, _, _, rfl, rfl, ?_⟩
          have e810 := e9.trans e10
          have e710 := e78.trans e810
          have hxs : ∀ x ∈ ((rankL ws).drop s.2.1.toNat).take ch.1.toNat, x < ws.length := fun x hx => hord x (List.mem_of_mem_drop (List.mem_of_mem_take hx))
          have ecut : cutV (nats (rankL ws)) (some s.2.1) (some (s.2.1 + ch.1)) = nats (((rankL ws).drop s.2.1.toNat).take ch.1.toNat) := by
            have h1 := cut_mid (nats (rankL ws)) (a := s.2.1.toNat) (b := s.2.1.toNat + ch.1.toNat) (by omega) (by rw [nats_len, hrl]; omega)
            have i1 : ((s.2.1.toNat : Nat) : Int) = s.2.1 := by omega
            have i2 : ((s.2.1.toNat + ch.1.toNat : Nat) : Int) = s.2.1 + ch.1 := by omega
            have i3 : s.2.1.toNat + ch.1.toNat - s.2.1.toNat = ch.1.toNat := by omega
            rw [i1, i2, i3] at h1
            rw [h1]
            unfold nats
            rw [List.map_take, List.map_drop]
          generalize ((rankL ws).drop s.2.1.toNat).take ch.1.toNat = xs at ecut hxs hnone hsome
          have elc := el_sl (K := K) (tl := tPart (tVar 8)) (th := tPart (tOp (rI0 fun i j => .int (i + j)) (tVar 8) (tVar 12))) (te := tVar 4) (σ := [some (.ref l), some (.int (L : Int)), some (.ref d), some (.ref d2), some (.ref lo), some (.ref ll), some n, some (.int s.1), some (.int s.2.1), some (.int ch.2.1), some (.ref pb), none, some (.int ch.1), h]) (H := H10) (ev_var rfl) (eo_some (ev_var rfl)) (eo_some (ev_add (ev_var rfl) (ev_var rfl))) (sq_of (e710 _ _ hlo'))
          rw [ecut] at elc
          refine s_forNL elc (fun pc i σ H' => ∃ h : Option L2.V, σ = [some (.ref l), some (.int (L : Int)), some (.ref d), some (.ref d2), some (.ref lo), some (.ref ll), some n, some (.int s.1), some (.int s.2.1), some (.int ch.2.1), some (.ref pb), none, some (.int ch.1), h] ∧ Ex H H' ∧ DAt P w K H' d kvs ∧ RCh K (sumsL ws) L H' kvs ss ∧ DAt P w K H' d2 (ss.reverse.map (entV (sumsL ws) L)) ∧
              H' lo = some (.lst (nats (rankL ws))) ∧ H' ll = some (.lst ((wr acc s.1.toNat (xs.take i)).map L2.V.int)) ∧ H' pc = some (.lst (nats xs)) ∧ Dp K H' n (nxD ch.2.2) ∧ pc ≠ ll)
            (fun pc H11 hpc e11 h11 => ⟨h, rfl, (ex.trans e710).trans e11, (da.ext e710).ext e11, rch_ext (e710.trans e11) rc, (da2.ext e710).ext e11, (e710.trans e11) _ _ hlo', (e710.trans e11) _ _ hll', h11, Dp.ext (e10.trans e11) _ _ hnd, fun z => by rw [z, e710 _ _ hll'] at hpc; cases hpc⟩)
            (fun pc i σ H' _ hP => by
              obtain ⟨_, _, _, _, _, _, _, _, z, _⟩ := hP
              exact sq_of z) ?_ ?_
          · rintro pc i x σ H11 hxi ⟨h, rfl, ex, da, rc, da2, hlo', hll', hpc, hnd, hne⟩
            unfold nats at hxi
            rw [List.getElem?_map] at hxi
            obtain ⟨k, hk, rfl⟩ : ∃ k, xs[i]? = some k ∧ L2.V.int (k : Int) = x := by
              cases e : xs[i]? with
              | none => rw [e] at hxi; cases hxi
              | some k => rw [e] at hxi; exact ⟨k, rfl, Option.some.inj hxi⟩
            have hkl := hxs k (List.mem_of_getElem? hk)
            refine s_setL (j := k) hll' (ev_var rfl) (ev_var rfl) (ev_var rfl) (by rw [List.length_map, wr_len, hal]; exact hkl) fun H12 e12 => ?_
            have hl12 := e12 _ _ hll'
            refine ⟨_, rfl, Ex.mut (ex.trans e12) hll0, (da.ext e12).put hl12, rch_put hl12 hnl (rch_ext e12 rc), (da2.ext e12).put hl12, by rw [upd_ne hlol]; exact e12 _ _ hlo', ?_, by rw [upd_ne hne]; exact e12 _ _ hpc, Dp.put hl12 _ _ ?_ (Dp.ext e12 _ _ hnd), hne⟩
            · rw [upd_same, List.take_succ, hk]
              show some (HO.lst _) = some (HO.lst ((wr acc s.1.toNat (xs.take i ++ [k])).map L2.V.int))
              rw [wr_snoc, List.map_set]
              have : ((s.1.toNat : Nat) : Int) = s.1 := by omega
              rw [this]
            · cases ch.2.2 with
              | none => rfl
              | some z => rfl
          · rintro pc σ H11 ⟨h, rfl, ex, da, rc, da2, hlo', hll', hpc, hnd, hne⟩
            rw [nats_len, List.take_length] at hll'
            cases en : ch.2.2 with
            | none =>
              have := nx_none hnd en
              subst this
              rw [hnone en] at hll'
              exact ⟨0, by omega, .non, lensW ws L, _, _, _, _, _, _, rfl, ex, da, rc, da2, hlo', hll', by rw [← hnone en, wr_len, hal], .inl ⟨rfl, rfl, rfl⟩⟩
            | some s' =>
              obtain ⟨t', rfl, hst'⟩ := nx_some hnd en
              obtain ⟨h1, h2⟩ := hsome s' en
              exact ⟨L + 2 - s'.1.toNat, by omega, .ref t', _, _, _, _, _, _, _, rfl, ex, da, rc, da2, hlo', hll', by rw [wr_len, hal], .inr ⟨s', t', rfl, hst', h2, rfl⟩⟩
      · rcases hx with ⟨rfl, rfl, rfl⟩ | ⟨s, t, rfl, hst, ats, rfl⟩
        · exact s_ret (ev_var rfl) fun H8 e8 => q ll H8 hll0 ((ex.trans e7).trans e8) (e8 _ _ (e7 _ _ hll'))
        · simp at hb
end
end K06
set_option Elab.async false
set_option linter.all false
set_option maxRecDepth 100000
set_option maxHeartbeats 4000000
set_option exponentiation.threshold 2048
namespace K06
open PySem PySem.Spec PyProof.Rows L2 GX KC Evl M03 M04
/-- at v: a row, its list not at p -/
def RowP (H : Hp) (p : Addr) (v : L2.V) (r : List Nat × Nat) : Prop := ∃ t q, v = .ref t ∧ H t = some (.tup [.ref q, .int (r.2 : Int)]) ∧ H q = some (.lst ((asI r.1).map L2.V.int)) ∧ q ≠ p
theorem RowP.ext {H H' : Hp} {p : Addr} {v : L2.V} {r : List Nat × Nat} (e : Ex H H') (h : RowP H p v r) : RowP H' p v r := by
  obtain ⟨t, q, h1, h2, h3, h4⟩ := h
  exact ⟨t, q, h1, e _ _ h2, e _ _ h3, h4⟩
theorem RowP.fresh {H : Hp} {p p' : Addr} {v : L2.V} {r : List Nat × Nat} (hp : H p' = none) (h : RowP H p v r) : RowP H p' v r := by
  obtain ⟨t, q, h1, h2, h3, h4⟩ := h
  exact ⟨t, q, h1, h2, h3, fun z => by rw [z, hp] at h3; cases h3⟩
theorem RowP.put {H : Hp} {p : Addr} {v : L2.V} {r : List Nat × Nat} {zs ys : List L2.V} (hp : H p = some (.lst zs)) (h : RowP H p v r) : RowP (upd H p (.lst ys)) p v r := by
  obtain ⟨t, q, h1, h2, h3, h4⟩ := h
  exact ⟨t, q, h1, by rw [upd_ne fun z => by rw [z, hp] at h2; cases h2]; exact h2, by rw [upd_ne h4]; exact h3, h4⟩
abbrev RowsP (H : Hp) (p : Addr) : List L2.V → List (List Nat × Nat) → Prop := Paired (RowP H p)
theorem rows_get {R : L2.V → List Nat × Nat → Prop} : ∀ {xs : List L2.V} {rs : List (List Nat × Nat)}, Paired R xs rs → ∀ (i : Nat) (x : L2.V), xs[i]? = some x → ∃ r, rs[i]? = some r ∧ R x r
  | _, _, .nil, i, x, h => by simp at h
  | _, _, .cons a r, 0, b, h => ⟨_, rfl, by rw [← Option.some.inj (show some _ = some b from h)]; exact a⟩
  | _, _, .cons a r, i + 1, b, h => by
    obtain ⟨s, h1, h2⟩ := rows_get r i b (by simpa using h)
    exact ⟨s, by simpa using h1, h2⟩
def gRow (L : Nat) (r : List Nat × Nat) : List (List Nat × Nat) := (List.range L).filterMap (rowStep L r)
theorem flat_len {L : Nat} (hL : L ≤ 4) : ∀ l : List (List Nat × Nat), (l.flatMap (gRow L)).length ≤ l.length * 4
  | [] => by simp
  | r :: l => by
    have ih := flat_len hL l
    have h1 := List.length_filterMap_le (rowStep L r) (List.range L)
    rw [List.length_range] at h1
    rw [List.flatMap_cons, List.length_append, List.length_cons]
    have : (gRow L r).length ≤ L := h1
    omega
theorem rowsL_len {L : Nat} (hL : L ≤ 4) : ∀ k, (rowsL L k).length ≤ 4 ^ k
  | 0 => Nat.le_refl _
  | k + 1 => by
    have ih := rowsL_len hL k
    have h1 := flat_len hL (rowsL L k)
    have e : rowsL L (k + 1) = (rowsL L k).flatMap (gRow L) := rfl
    rw [e, Nat.pow_succ]
    omega
theorem flat_take {L i : Nat} {l : List (List Nat × Nat)} {r : List Nat × Nat} (h : l[i]? = some r) : (l.take (i + 1)).flatMap (gRow L) = (l.take i).flatMap (gRow L) ++ gRow L r := by
  rw [List.take_succ, h, List.flatMap_append]
  simp
theorem fm_succR {L j : Nat} {r : List Nat × Nat} : (List.range (j + 1)).filterMap (rowStep L r) = (List.range j).filterMap (rowStep L r) ++ (rowStep L r j).toList := by
  rw [List.range_succ, List.filterMap_append, List.filterMap_cons, List.filterMap_nil]
  cases rowStep L r j <;> rfl
section
variable {P : Program} {w : World} {K : PySem.W.Frag} {mg : Str → Option Value} {base : Heap}
theorem s_appP {σ : L2.St} {H : Hp} {D : Ends} {ta te : TE} {l : Addr} {xs : List L2.V} {R : L2.V → Hp → Prop} (hl : H l = some (.lst xs)) (ha : Ev ta σ H (.ref l)) (h : EvP te σ H R) (hz : xs.length < 100000) (k : ∀ v H1, Ex H H1 → R v H1 → D.nx σ (upd H1 l (.lst (xs ++ [v])))) :
    tDrop (tBM K "list" rAppend ta (tCons te tNil)) D σ H := ha H (Ex.refl H) _ fun H1 e1 =>
  ⟨.inl ⟨rfl, xs, sq_of (e1 l _ hl)⟩, h H1 e1 _ fun v H2 e2 r => ⟨l, xs, v, rfl, rfl, (e1.trans e2) l _ hl, sz_lt hz, k v H2 (e1.trans e2) r⟩⟩
theorem el_catR {σ : L2.St} {H : Hp} {ta tb : TE} {xs ys : List L2.V} {a : Addr} (ha : Ev ta σ H (.ref a)) (h0 : H a = some (.lst xs)) (hb : EvL tb σ H ys) (hz : xs.length + ys.length ≤ 100000) : EvL (tOp rCat ta tb) σ H (xs ++ ys) := fun H1 e Q q =>
  ha H1 e _ fun H2 e2 => hb H2 (e.trans e2) _ fun b H3 hbn e3 h3 => ⟨a, b, xs, ys, rfl, rfl, ((e.trans e2).trans e3) a _ h0, h3, sz_of hz, fun p2 hp2 => q p2 _ (fresh_back (e2.trans e3) hp2) ((e2.trans e3).trans (Ex.new hp2)) upd_same⟩
def spAll (K : PySem.W.Frag) : Sp := fun vs H Q _ => ∃ (l : Addr) (ws : List Int) (L : Nat), vs = [.ref l, .int (L : Int)] ∧ WIn K ws L l H ∧ L ≤ 4 ∧ ws.length ≤ 5 ∧ (∀ i, i < ws.length → 0 ≤ ws.getD i 0 ∧ ws.getD i 0 ≤ 1000000) ∧ RetV (ovI (bestAll ws L)) H Q
theorem ok_law_all_least {f : Addr} {fd : FuncData} {k : Nat} (F : Fun K "_law_all_least" "_law_all_least" s_law_all_least f fd) (B : Bs mg) : FnOk P w K mg base CX0 (k + 1) f fd ["weights", "limit"] (spAll K) := by
  refine F.ok sc_law_all_least (fun vs H Q E h => ?_) (fun cdv A outer s H vs Q E hr h => ?_)
  · obtain ⟨l, ws, L, rfl, _⟩ := h
    rfl
  · obtain ⟨l, ws, L, rfl, hw, hL4, hn5, hwb, q⟩ := h
    refine ⟨_, (pss_cons (ps_set (i := 2) sc_law_all_least.nd rfl (Or.inl rfl) pe_non)
      (pss_cons (ps_set (i := 3) sc_law_all_least.nd rfl (Or.inl rfl) (pe_callB call_len_seq (by rfl) B.len PySem.boot_len (pa_cons (pv 0) pa_nil)))
      (pss_cons (ps_set (i := 4) sc_law_all_least.nd rfl (Or.inl rfl) (pe_lst (pa_cons (pe_tup (pa_cons (pe_lst pa_nil) (pa_cons pe_int pa_nil))) pa_nil)))
      (pss_cons (ps_for PassesOwn.never rfl (pi_range1 (by rfl) B.range (pa_cons (pv 3) pa_nil)) (pg_name (i := 5) sc_law_all_least.nd rfl (Or.inl rfl)) (pss_cons (ps_set (i := 6) sc_law_all_least.nd rfl (Or.inl rfl) (pe_lst pa_nil))
      (pss_cons (ps_for PassesOwn.never rfl (pi_list (pv 4)) (pg_name (i := 7) sc_law_all_least.nd rfl (Or.inr rfl)) (pss_one (ps_for PassesOwn.never rfl (pi_range2 (by rfl) B.range (pa_cons pe_int (pa_cons (pe_op op_add (pv 1) pe_int) pa_nil))) (pg_name (i := 8) sc_law_all_least.nd rfl (Or.inl rfl)) (pss_cons (ps_set (i := 9) sc_law_all_least.nd rfl (Or.inl rfl) (pe_op op_add (pe_ix ix_tup (pv 7) pe_int (fun _ _ => rfl)) (pe_op op_shl pe_int (pe_op op_sub (pv 1) (pv 8)))))
      (pss_one (ps_if (pt_cmpR op_le (pv 9) (pe_op op_shl pe_int (pv 1)) (nomark _)) (pss_one (ps_expr (pe_bm PySem.F.plainAttrs_list PySem.F.slot_list_append PySem.F.type_list_append mt_append (pv 6) (pa_cons (pe_tup (pa_cons (pe_op op_cat (pe_ix ix_tup (pv 7) pe_int (fun _ _ => rfl)) (pe_lst (pa_cons (pv 8) pa_nil))) (pa_cons (pv 9) pa_nil))) pa_nil)))) pss_nil))))))
      (pss_one (ps_set (i := 4) sc_law_all_least.nd rfl (Or.inl rfl) (pv 6))))))
      (pss_cons (ps_for PassesOwn.never rfl (pi_list (pv 4)) (pg_name (i := 7) sc_law_all_least.nd rfl (Or.inr rfl)) (pss_cons (ps_set (i := 10) sc_law_all_least.nd rfl (Or.inl rfl) (pe_callB (cr_sum rfl) (by rfl) B.sum (by decide +kernel) (pa_cons (pe_lc rfl sc_law_all_least.nd (pi_range1 (by rfl) B.range (pa_cons (pv 3) pa_nil)) (blkOk_by (own := [("k", 5)]) (N := ["weights", "limit", "best", "many", "rows", "k", "longer", "row", "length", "used", "price"]) (sc := defScope s_law_all_least) (by decide +kernel)) (fun _ _ _ _ _ => (pg_name (i := 5) sc_law_all_least.nd rfl (Or.inl rfl))) (fun _ _ _ _ _ => pts_nil) (fun _ _ _ _ _ => (pe_op op_mul (pe_ix (ix_listK (K := K) rfl) (pv 0) (pv 5) (fun _ _ => rfl)) (pe_ix (ix_listK (K := K) rfl) (pe_ix (ix_tupK (K := K) rfl) (pv 7) pe_int (fun _ _ => rfl)) (pv 5) (fun _ _ => rfl))))) pa_nil)))
      (pss_one (ps_if (PW.pt (pw_or (pt_cmpR op_isN (pv 2) pe_non (nomark _)) (pw_or1 (pt_cmpR op_lt (pv 10) (pv 2) (nomark _))))) (pss_one (ps_set (i := 2) sc_law_all_least.nd rfl (Or.inl rfl) (pv 10))) pss_nil))))
      (pss_one (ps_ret (pv 2)))))))), ?_⟩
    have hwl : ((ws.map L2.V.int).length : Int) = (ws.length : Int) := by rw [List.length_map]
    have hL1 := hw.l1
    refine q_asg (v := .non) ev_c fun H1 e1 => ?_
    refine q_asg (v := .int (ws.length : Int)) (ev_is (ev_len (ev_var rfl) (ex_l e1 hw.sq)) (by rw [hwl])) fun H2 e2 => ?_
    refine q_asgP (R := fun v H' => ∃ (ra t : Addr), v = .ref ra ∧ H' ra = some (.lst [.ref t]) ∧ RowP H' ra (.ref t) ([], 0)) (fun Ha ea Q q => ?_) fun v H3 e3 ⟨ra, t, ev, h3, hrow⟩ => ?_
    · unfold tLst tTup tCons tNil tC
      refine ⟨sz_of (by decide), fun q0 hq => ⟨sz_of (by show 2 ≤ 100000; decide), fun t ht => ⟨sz_of (by show 1 ≤ 100000; decide), fun ra hra => ?_⟩⟩⟩
      have eb : Ex Ha (upd Ha q0 (.lst [])) := Ex.new hq
      have h2 : (upd Ha q0 (.lst [])) q0 = some (.lst []) := upd_same
      have e3 := (eb.trans (Ex.new (o := .tup [.ref q0, .int 0]) ht)).trans (Ex.new (o := .lst [.ref t]) hra)
      refine q _ _ e3 ⟨ra, t, rfl, upd_same, t, q0, rfl, (Ex.new hra) _ _ upd_same, (Ex.new hra) _ _ ((Ex.new ht) _ _ h2), fun z => ?_⟩
      have h9 := (Ex.new (o := .tup [.ref q0, .int 0]) ht) _ _ h2
      subst z
      rw [h9] at hra
      cases hra
    subst ev
    have e03 := (e1.trans e2).trans e3
    refine q_forR1 (n := (ws.length : Int)) (ea1 (ev_var rfl)) ⟨by omega, by omega⟩
      (fun k σ H' => ∃ (ra p0 : Addr) (xs : List L2.V) (a b c d e : Option L2.V), σ = [some (.ref l), some (.int (L : Int)), some .non, some (.int (ws.length : Int)), some (.ref ra), a, b, c, d, e, none] ∧ Ex H H' ∧ H' ra = some (.lst xs) ∧ RowsP H' p0 xs (rowsL L k))
      (fun H4 e4 => ⟨ra, ra, [.ref t], none, none, none, none, none, rfl, e03.trans e4, e4 _ _ h3, .cons (hrow.ext e4) .nil⟩) ?_ ?_
    · rintro k σ H4 hk ⟨ra, p0, xs, a, b, c, d, e, rfl, ex, hra, hrows⟩
      have hk5 : k < 5 := by omega
      have hrl : (rowsL L k).length ≤ 256 := by
        have h1 := rowsL_len hL4 k
        have h2 : 4 ^ k ≤ 4 ^ 4 := Nat.pow_le_pow_right (by decide) (by omega)
        have h3 : 4 ^ 4 = 256 := rfl
        omega
      refine q_asgL (el_lst ea_nil (by decide)) fun p H5 hp e5 h5 => ?_
      have hp0 : H p = none := fresh_back ex hp
      have hrap : ra ≠ p := fun z => by rw [z, hp] at hra; cases hra
      have hrp : RowsP H5 p xs (rowsL L k) := Paired.mapP hrows fun v r z => (z.fresh hp).ext e5
      have hxl : xs.length = (rowsL L k).length := Paired.length hrows
      refine q_forLn (ev_var rfl) (sq_of (e5 _ _ hra))
        (fun i σ H' => ∃ (ys : List L2.V) (c d e : Option L2.V), σ = [some (.ref l), some (.int (L : Int)), some .non, some (.int (ws.length : Int)), some (.ref ra), some (.int (k : Int)), some (.ref p), c, d, e, none] ∧ Ex H H' ∧ H' ra = some (.lst xs) ∧ RowsP H' p xs (rowsL L k) ∧ H' p = some (.lst ys) ∧ RowsP H' p ys (((rowsL L k).take i).flatMap (gRow L)))
        (fun H6 e6 => ⟨[], c, d, e, rfl, (ex.trans e5).trans e6, e6 _ _ (e5 _ _ hra), Paired.mapP hrp fun v r z => z.ext e6, e6 _ _ h5, .nil⟩)
        (fun i σ H' _ hP => by
          obtain ⟨_, _, _, _, _, _, z, _⟩ := hP
          exact sq_of z) ?_ ?_
      · rintro i x σ H6 hx ⟨ys, c, d, e, rfl, ex, hra6, hrp6, hp6, hys⟩
        obtain ⟨r, hri, tt, qq, rfl, htt, hqq, hqp⟩ := rows_get hrp6 i x hx
        obtain ⟨i1, i2, i3, i4⟩ := rows_is L k r.1 r.2 (List.mem_of_getElem? hri)
        refine s_forR2 (lo := 1) (n := (L : Int) + 1) (ea2 ev_c (ev_add (ev_var rfl) ev_c)) ⟨by omega, by omega, by omega, by omega⟩
          (fun j σ H' => ∃ (ys : List L2.V) (d e : Option L2.V), σ = [some (.ref l), some (.int (L : Int)), some .non, some (.int (ws.length : Int)), some (.ref ra), some (.int (k : Int)), some (.ref p), some (.ref tt), d, e, none] ∧ Ex H H' ∧ H' ra = some (.lst xs) ∧ RowsP H' p xs (rowsL L k) ∧ H' p = some (.lst ys) ∧ RowsP H' p ys (((rowsL L k).take i).flatMap (gRow L) ++ (List.range j).filterMap (rowStep L r)) ∧ H' tt = some (.tup [.ref qq, .int (r.2 : Int)]) ∧ H' qq = some (.lst ((asI r.1).map L2.V.int)))
          (fun H7 e7 => ⟨ys, d, e, rfl, ex.trans e7, e7 _ _ hra6, Paired.mapP hrp6 fun v r z => z.ext e7, e7 _ _ hp6, by simpa using Paired.mapP hys fun v r z => z.ext e7, e7 _ _ htt, e7 _ _ hqq⟩) ?_ ?_
        · rintro j σ H7 hj ⟨ys, d, e, rfl, ex, hra7, hrp7, hp7, hys, htt, hqq⟩
          have hjL : j < L := by omega
          have eu : ((r.2 + 2 ^ (L - (j + 1)) : Nat) : Int) = (r.2 : Int) + 1 * 2 ^ ((L : Int) - (1 + (j : Int))).toNat := by
            rw [show ((L : Int) - (1 + (j : Int))).toNat = L - (j + 1) by omega, Int.one_mul]
            push_cast
            rfl
          refine q_asg (v := .int ((r.2 + 2 ^ (L - (j + 1)) : Nat) : Int)) (ev_is (ev_add (ev_op (ev_var rfl) ev_c (rv_ixT (st_of htt) rfl)) (ev_op ev_c (ev_sub (ev_var rfl) (ev_var rfl)) (rv_shl ⟨by omega, by omega, by decide⟩))) (by rw [eu])) fun H8 e8 => ?_
          have eb : decide (((r.2 + 2 ^ (L - (j + 1)) : Nat) : Int) ≤ 1 * 2 ^ ((L : Int)).toNat) = decide (r.2 + 2 ^ (L - (j + 1)) ≤ 2 ^ L) := by
            have e9 : (1 * 2 ^ ((L : Int)).toNat : Int) = ((2 ^ L : Nat) : Int) := by
              rw [Int.one_mul, Int.toNat_natCast]
              push_cast
              rfl
            rw [e9]
            exact decide_eq_decide.mpr Int.ofNat_le
          have hyl : ys.length ≤ 2000 := by
            rw [Paired.length hys, List.length_append]
            have h1 := flat_len hL4 ((rowsL L k).take i)
            have h2 := List.length_filterMap_le (rowStep L r) (List.range j)
            rw [List.length_range] at h2
            rw [List.length_take] at h1
            omega
          rw [fm_succR]
          refine s_when (et_is (et_test (ev_op (ev_var rfl) (ev_op ev_c (ev_var rfl) (rv_shl ⟨by omega, by omega, by decide⟩)) rv_I0)) eb) (fun hb H9 e9 => ?_) (fun hb H9 e9 => ?_)
          · have er : rowStep L r j = some (r.1 ++ [j + 1], r.2 + 2 ^ (L - (j + 1))) := if_pos (of_decide_eq_true hb)
            have e79 := e8.trans e9
            refine s_appP (e79 _ _ hp7) (ev_var rfl) (R := fun v H1 => RowP H1 p v (r.1 ++ [j + 1], r.2 + 2 ^ (L - (j + 1)))) (fun Ha ea Q q => ?_) (by omega) fun v H10 e10 hv => ?_
            · unfold tTup tCons tNil
              have hcat := el_catR (ta := tOp (rIxT K) (tVar 7) (tC (.int 0))) (tb := tLst (tCons (tVar 8) tNil)) (σ := [some (.ref l), some (.int (L : Int)), some .non, some (.int (ws.length : Int)), some (.ref ra), some (.int (k : Int)), some (.ref p), some (.ref tt), some (.int (1 + (j : Int))), some (.int ((r.2 + 2 ^ (L - (j + 1)) : Nat) : Int)), none]) (H := H9) (ev_op (ev_var rfl) ev_c (rv_ixT (st_of (e79 _ _ htt)) rfl)) (e79 _ _ hqq) (el_lst (ea1 (ev_var rfl)) (by show 1 ≤ 100000; decide)) (by
                rw [List.length_map]
                unfold asI
                rw [List.length_map, i1]
                show k + 1 ≤ 100000
                omega)
              refine hcat Ha ea _ fun q1 Hb hq1 eb h1 => ?_
              refine ⟨_, rfl, sz_of (by show 2 ≤ 100000; decide), fun t1 ht1 => q _ _ (eb.trans (Ex.new ht1)) ⟨t1, q1, rfl, upd_same, ?_, fun z => ?_⟩⟩
              · have h2 := (Ex.new (o := .tup [.ref q1, .int ((r.2 + 2 ^ (L - (j + 1)) : Nat) : Int)]) ht1) _ _ h1
                rw [h2]
                unfold asI
                rw [List.map_append, List.map_append]
                show some (HO.lst (_ ++ [L2.V.int (1 + (j : Int))])) = some (HO.lst (_ ++ [L2.V.int (((j + 1 : Nat)) : Int)]))
                rw [show (1 : Int) + (j : Int) = ((j + 1 : Nat) : Int) by omega]
              · have := ea _ _ (e79 _ _ hp7)
                rw [z, this] at hq1
                cases hq1
            · have hp10 := e10 _ _ (e79 _ _ hp7)
              have e710 := e79.trans e10
              refine ⟨ys ++ [v], _, _, rfl, Ex.mut (ex.trans e710) hp0, by rw [upd_ne hrap]; exact e710 _ _ hra7, Paired.mapP hrp7 fun v r z => (z.ext e710).put hp10, upd_same, ?_, ?_, by rw [upd_ne hqp]; exact e710 _ _ hqq⟩
              · rw [er, ← List.append_assoc]
                exact Paired.snoc (Paired.mapP hys fun v r z => (z.ext e710).put hp10) (hv.put hp10)
              · rw [upd_ne fun z => by rw [z, hp7] at htt; cases htt]
                exact e710 _ _ htt
          · have er : rowStep L r j = none := if_neg (of_decide_eq_false hb)
            have e79 := e8.trans e9
            refine ⟨ys, _, _, rfl, ex.trans e79, e79 _ _ hra7, Paired.mapP hrp7 fun v r z => z.ext e79, e79 _ _ hp7, ?_, e79 _ _ htt, e79 _ _ hqq⟩
            rw [er, Option.toList_none, List.append_nil]
            exact Paired.mapP hys fun v r z => z.ext e79
        · rintro σ H7 ⟨ys, d, e, rfl, ex, hra7, hrp7, hp7, hys, htt, hqq⟩
          have e9 : ((L : Int) + 1 - 1).toNat = L := by omega
          rw [e9] at hys
          refine ⟨ys, _, _, _, rfl, ex, hra7, hrp7, hp7, ?_⟩
          rw [flat_take hri]
          exact hys
      · rintro σ H6 ⟨ys, c, d, e, rfl, ex, hra6, hrp6, hp6, hys⟩
        rw [hxl, List.take_length] at hys
        exact s_asg (ev_var rfl) fun H7 e7 => ⟨p, p, ys, _, _, _, _, _, rfl, ex.trans e7, e7 _ _ hp6, Paired.mapP hys fun v r z => z.ext e7⟩
    · rintro σ H4 ⟨ra, p0, xs, a, b, c, d, e, rfl, ex, hra, hrows⟩
      rw [Int.toNat_natCast] at hrows
      have hxl : xs.length = (rowsL L ws.length).length := Paired.length hrows
      refine q_forLn (ev_var rfl) (sq_of hra)
        (fun i σ H' => ∃ (c g : Option L2.V), σ = [some (.ref l), some (.int (L : Int)), some (ovI (omin (((rowsL L ws.length).take i).map fun r => some (costI ws (asI r.1))))), some (.int (ws.length : Int)), some (.ref ra), a, b, c, d, e, g] ∧ Ex H H' ∧ H' ra = some (.lst xs) ∧ RowsP H' p0 xs (rowsL L ws.length))
        (fun H5 e5 => ⟨c, none, rfl, ex.trans e5, e5 _ _ hra, Paired.mapP hrows fun v r z => z.ext e5⟩)
        (fun i σ H' _ hP => by
          obtain ⟨_, _, _, _, z, _⟩ := hP
          exact sq_of z) ?_ ?_
      · rintro i x σ H5 hx ⟨c, g, rfl, ex, hra, hrows⟩
        obtain ⟨r, hri, tt, qq, rfl, htt, hqq, hqp⟩ := rows_get hrows i x hx
        obtain ⟨i1, i2, i3, i4⟩ := rows_is L ws.length r.1 r.2 (List.mem_of_getElem? hri)
        have homn : omin (((rowsL L ws.length).take (i + 1)).map fun r => some (costI ws (asI r.1))) = oadd (omin (((rowsL L ws.length).take i).map fun r => some (costI ws (asI r.1)))) (some (costI ws (asI r.1))) := by
          rw [List.take_succ, hri, List.map_append]
          exact omin_snoc _ _
        rw [homn]
        generalize omin (((rowsL L ws.length).take i).map fun r => some (costI ws (asI r.1))) = best
        have hgv : ((List.range ws.length).map fun k => ws.getD k 0 * (asI r.1).getD k 0).map L2.V.int = given ((ws.length : Int)).toNat (fun _ => true) (fun k => L2.V.int (ws.getD k 0 * (asI r.1).getD k 0)) := by
          unfold given
          rw [List.filter_eq_self.mpr fun _ _ => rfl, Int.toNat_natCast, List.map_map]
          rfl
        refine q_asg (v := .int (costI ws (asI r.1))) (ev_sumL (ns := (List.range ws.length).map fun k => ws.getD k 0 * (asI r.1).getD k 0) (by
          rw [hgv]
          refine el_lcR1 (fun _ => true) _ (ea1 (ev_var rfl)) ⟨by omega, by omega⟩ (fun x => rfl) (fun i H1 e hi => et_yes) (fun k H1 e hk _ => ?_)
          have hk' : k < ws.length := by omega
          exact ev_op (ev_op (ev_var rfl) (ev_var rfl) (rv_ixL (ex_l (ex.trans e) hw.sq) (atI_at rfl hk'))) (ev_op (ev_op (ev_var rfl) ev_c (rv_ixT (st_of (e _ _ htt)) rfl)) (ev_var rfl) (rv_ixL (sq_of (e _ _ hqq)) (atI_at rfl (by unfold asI; rw [List.length_map, i1]; exact hk')))) (rv_mul (by have := hwb k hk'; omega)))) fun H6 e6 => ?_
        generalize costI ws (asI r.1) = pr
        have fin : ∀ (σ' : L2.St) H1, Ex H6 H1 → σ' = [some (.ref l), some (.int (L : Int)), some (ovI (oadd best (some pr))), some (.int (ws.length : Int)), some (.ref ra), a, b, some (.ref tt), d, e, some (.int pr)] → ∃ (c g : Option L2.V), σ' = [some (.ref l), some (.int (L : Int)), some (ovI (oadd best (some pr))), some (.int (ws.length : Int)), some (.ref ra), a, b, c, d, e, g] ∧ Ex H H1 ∧ H1 ra = some (.lst xs) ∧ RowsP H1 p0 xs (rowsL L ws.length) := fun σ' H1 e es =>
          ⟨_, _, es, (ex.trans e6).trans e, (e6.trans e) _ _ hra, Paired.mapP hrows fun v r z => z.ext (e6.trans e)⟩
        cases best with
        | none =>
          refine s_when (b := true) (et_is (et_or (a := true) (b := true) (et_is (et_test (ev_isN (ev_var rfl) ev_c)) rfl) (fun z => by cases z)) rfl) (fun _ H12 e13 => ?_) (fun z => by cases z)
          exact s_asg (ev_var rfl) fun H13 e14 => fin _ H13 (e13.trans e14) rfl
        | some b0 =>
          refine s_when (b := decide (pr < b0)) (et_is (et_or (a := false) (b := decide (pr < b0)) (et_is (et_test (ev_isN (ev_var rfl) ev_c)) rfl) (fun _ => et_test (ev_lt (ev_var rfl) (ev_var rfl)))) rfl) (fun hb H12 e13 => ?_) (fun hb H12 e13 => ?_)
          · have eo : oadd (some b0) (some pr) = some pr := if_pos (of_decide_eq_true hb)
            rw [eo] at fin ⊢
            exact s_asg (ev_var rfl) fun H13 e14 => fin _ H13 (e13.trans e14) rfl
          · have eo : oadd (some b0) (some pr) = some b0 := if_neg (of_decide_eq_false hb)
            rw [eo] at fin ⊢
            exact fin _ H12 e13 rfl
      · rintro σ H5 ⟨c, g, rfl, ex, hra, hrows⟩
        rw [hxl, List.take_length]
        exact s_ret (ev_var rfl) fun H6 e6 => q H6 (ex.trans e6)
end
end K06
set_option linter.all false
/-! Certificates: a sound one's value of the first stage is not above any cost. -/
namespace M06
open M03 M04
/-- no value is above what a choice allows, and all stages behind are there -/
def Sound (sums : List Int) (L : Int) (cert : Stg → Option Int) : Prop := ∀ s v, cert s = some v → ∀ c ∈ chS sums L s, (c.2.2 = none → v ≤ c.2.1) ∧ ∀ s', c.2.2 = some s' → ∃ v', cert s' = some v' ∧ v ≤ c.2.1 + v'
theorem cert_le {vs : List Int} {L : Nat} {cert : Stg → Option Int} (hL : 1 ≤ L) (hs : Sound (restL vs) L cert) {d m k : Nat} {as : List Nat} {c : Int} (h : Pth vs L d m k as c) : m < vs.length → 1 ≤ k → ∀ v, cert (st d m k) = some v → v ≤ c := by
  induction h with
  | @stop d m k a hd hz ha hak =>
    intro hm hk v hv
    have ok := sok (vs := vs) hL hd hm hk
    have hc : ((a : Int), (0 : Int), (none : Nxt)) ∈ chS (restL vs) L (st d m k) := (ch_mem ok).mpr (ch_stop hak ha hz)
    exact (hs _ v hv _ hc).1 rfl
  | @go d m k a as c hd hz ha hak hp ih =>
    intro hm hk v hv
    have ok := sok (vs := vs) hL (Nat.le_of_lt hd) hm hk
    have hc := (ch_mem ok).mpr (ch_go (L := L) hak ha hz hd)
    obtain ⟨v', hv', hle⟩ := (hs _ v hv _ hc).2 _ rfl
    have := ih ha (by omega) v' hv'
    have hle : v ≤ S vs (m + a) + v' := hle
    omega
/-- the certificate's first value is not above the cost of any lengths that keep the limit -/
theorem cert_first {ws : List Int} {F : List Nat} {L : Nat} {cert : Stg → Option Int} {v : Int} (hL : 1 ≤ L) (hne : ws ≠ []) (h0 : ∀ v ∈ ws, 0 ≤ v) (hs : Sound (sumsL ws) L cert) (hv : cert (0, 0, 1) = some v) (hF : F.length = ws.length) (h1 : ∀ l ∈ F, 1 ≤ l ∧ l ≤ L) (hk : tot L F ≤ 2 ^ L) : v ≤ costI ws (asI F) := by
  have hpos : 0 < ws.length := List.length_pos_iff.mpr hne
  obtain ⟨as, c, hp, hc⟩ := path_first (vs := ranked ws) (ls := (rankL ws).map fun k => F.getD k 0) (L := L) (by rw [ranked_len, List.length_map, rank_len]) (fun z => by
      have := congrArg List.length z
      rw [List.length_map, rank_len] at this
      have this : ws.length = 0 := this
      omega) (fun v hv => h0 v ((ranked_perm ws).mem_iff.mp hv)) (ranked_desc ws) (fun l hl => by
      obtain ⟨k, hk, rfl⟩ := List.mem_map.mp hl
      have hk := rank_lt hk
      refine h1 _ ?_
      rw [List.getD_eq_getElem?_getD, List.getElem?_eq_getElem (by omega)]
      exact List.getElem_mem _) (by rw [tot_rank L hF]; exact hk)
  have := cert_le (vs := ranked ws) hL hs hp (by rw [ranked_len]; exact hpos) (Nat.le_refl _) v hv
  rw [RR_cost] at hc
  omega
/-- lengths that a certificate shows have the least cost of all -/
theorem shown_least {ws : List Int} {F : List Nat} {L : Nat} {cert : Stg → Option Int} (hL : 1 ≤ L) (hne : ws ≠ []) (h0 : ∀ v ∈ ws, 0 ≤ v) (hs : Sound (sumsL ws) L cert) (hv : cert (0, 0, 1) = some (costI ws (asI F))) (hF : F.length = ws.length) (h1 : ∀ l ∈ F, 1 ≤ l ∧ l ≤ L) (hk : tot L F ≤ 2 ^ L) : bestAll ws L = some (costI ws (asI F)) := by
  have hi := omin_is ((rowsL L ws.length).map fun r => some (costI ws (asI r.1)))
  have hm : some (costI ws (asI F)) ∈ (rowsL L ws.length).map fun r => some (costI ws (asI r.1)) := List.mem_map.mpr ⟨_, rows_all L ws.length F hF h1 hk, rfl⟩
  unfold bestAll
  cases e : omin ((rowsL L ws.length).map fun r => some (costI ws (asI r.1))) with
  | none => exact absurd (hi.none e _ hm) (by simp)
  | some w =>
    have a := hi.le w _ e hm
    obtain ⟨r, hr, h2⟩ := List.mem_map.mp (hi.mem w e)
    obtain ⟨i1, i2, i3, i4⟩ := rows_is L _ r.1 r.2 hr
    have b := cert_first hL hne h0 hs hv i1 i2 (by rw [i3]; exact i4)
    have := Option.some.inj h2
    rw [show w = costI ws (asI F) by omega]
/-- the certificate of the program: the values, and a number that no value is above for stages without one -/
theorem ceil_sound {sums : List Int} {L : Int} {ss : List Stg} {C : Int} (hL : 1 ≤ L) (hn : 1 ≤ nN sums) (h : RS sums L ss) (h0 : ∀ j, 0 ≤ sums.getD j 0) (hC : ∀ s ∈ ss, ∀ v, V sums L s = some v → v ≤ C) : Sound sums L fun s => if s ∈ ss then some ((V sums L s).getD C) else none := by
  intro s v hv c hc
  have hv : (if s ∈ ss then some ((V sums L s).getD C) else none) = some v := hv
  by_cases hs : s ∈ ss
  · rw [if_pos hs] at hv
    have hv := Option.some.inj hv
    have hr := (h.iff s).mp hs
    obtain ⟨ok, _⟩ := hr.ok hL hn
    have hi := omin_is ((chS sums L s).map (lsum (V sums L)))
    rw [← V_eq ok] at hi
    have hmem : lsum (V sums L) c ∈ (chS sums L s).map (lsum (V sums L)) := List.mem_map.mpr ⟨c, hc, rfl⟩
    refine ⟨fun e => ?_, fun s' e => ?_⟩
    · have hl : lsum (V sums L) c = some c.2.1 := by unfold lsum; rw [e]
      rw [hl] at hmem
      cases ev : V sums L s with
      | none => exact absurd (hi.none ev _ hmem) (by simp)
      | some y =>
        rw [ev] at hv
        have := hi.le y _ ev hmem
        have hv : y = v := hv
        omega
    · have hs' : s' ∈ ss := (h.iff s').mpr (.next hr hc e)
      have hl : lsum (V sums L) c = (V sums L s').map (c.2.1 + ·) := by unfold lsum; rw [e]
      refine ⟨(V sums L s').getD C, if_pos hs', ?_⟩
      have hp : 0 ≤ c.2.1 := by
        have := (ch_mem ok).mp hc
        cases this with
        | stop => exact Int.le_refl 0
        | go => exact h0 _
      cases ev' : V sums L s' with
      | none =>
        have hvC : v ≤ C := by
          rw [← hv]
          cases ev : V sums L s with
          | none => exact Int.le_refl _
          | some y => exact hC s hs y ev
        show v ≤ c.2.1 + C
        omega
      | some y' =>
        rw [hl, ev'] at hmem
        have hmem : some (c.2.1 + y') ∈ (chS sums L s).map (lsum (V sums L)) := hmem
        cases ev : V sums L s with
        | none => exact absurd (hi.none ev _ hmem) (by simp)
        | some y =>
          rw [ev] at hv
          have := hi.le y _ ev hmem
          have hv : y = v := hv
          show v ≤ c.2.1 + y'
          omega
  · rw [if_neg hs] at hv
    exact absurd hv (by simp)
end M06
set_option Elab.async false
set_option linter.all false
set_option maxRecDepth 100000
set_option maxHeartbeats 4000000
namespace K06
open PySem PySem.Spec PyProof.Rows L2 GX KC Evl M03 M04
/-- a certificate as a dict -/
def entC (p : Stg × Int) : List Key × L2.V := (keyS p.1, .int p.2)
def certOf (ps : List (Stg × Int)) (s : Stg) : Option Int := (ps.find? fun p => decide (p.1 = s)).map (·.2)
theorem cert_val (ps : List (Stg × Int)) (s : Stg) : valV (ps.map entC) (keyS s) = (certOf ps s).map L2.V.int := by
  induction ps with
  | nil => rfl
  | cons p ps ih =>
    rw [List.map_cons]
    by_cases e : p.1 = s
    · rw [valV_pos (by show keyS p.1 = keyS s; rw [e])]
      have : certOf (p :: ps) s = some p.2 := by simp [certOf, List.find?_cons, e]
      rw [this]
      rfl
    · rw [valV_neg (fun q => e (keyS_inj q)), ih]
      have : certOf (p :: ps) s = certOf ps s := by simp [certOf, List.find?_cons, e]
      rw [this]
/-- what a choice allows -/
def okC (f : Stg → Option Int) (v : Int) (c : Cho) : Bool :=
  match c.2.2 with
  | none => decide (v ≤ c.2.1)
  | some s' => match f s' with
    | none => false
    | some v' => decide (v ≤ c.2.1 + v')
def lowB (sums : List Int) (L : Int) (f : Stg → Option Int) (s : Stg) (v : Int) : Bool := (chS sums L s).all (okC f v)
theorem sound_iff {sums : List Int} {L : Int} {f : Stg → Option Int} : M06.Sound sums L f ↔ ∀ s v, f s = some v → lowB sums L f s v = true := by
  unfold M06.Sound lowB
  constructor
  · intro h s v hv
    rw [List.all_eq_true]
    intro c hc
    obtain ⟨h1, h2⟩ := h s v hv c hc
    unfold okC
    cases e : c.2.2 with
    | none => exact decide_eq_true (h1 e)
    | some s' =>
      obtain ⟨v', g1, g2⟩ := h2 s' e
      simp only [g1]
      exact decide_eq_true g2
  · intro h s v hv c hc
    have := List.all_eq_true.mp (h s v hv) c hc
    unfold okC at this
    refine ⟨fun e => ?_, fun s' e => ?_⟩
    · rw [e] at this
      exact of_decide_eq_true this
    · rw [e] at this
      cases g : f s' with
      | none => simp only [g] at this; cases this
      | some v' =>
        simp only [g] at this
        exact ⟨v', rfl, of_decide_eq_true this⟩
section
variable {P : Program} {w : World} {K : PySem.W.Frag} {mg : Str → Option Value} {base : Heap}
variable {σ : L2.St} {H : Hp} {D : Ends} {tz tu : TS} {tl : TE}
/-- over a new list of data -/
theorem s_forLD {ds : List PyData} {g : TG} (h : EvLD K tl σ H ds) (Pv : List L2.V → Addr → Nat → L2.St → Hp → Prop) (h0 : ∀ xs p H1, H p = none → Ex H H1 → H1 p = some (.lst xs) → DpAll K H1 xs ds → Pv xs p 0 σ H1) (hl : ∀ xs p i σ' H', i ≤ xs.length → Pv xs p i σ' H' → SqL K H' p xs)
    (hs : ∀ xs p i x σ' H', xs.length = ds.length → xs[i]? = some x → Pv xs p i σ' H' → g x σ' H' fun σ2 H2 => tu { D with nx := Pv xs p (i + 1), ct := Pv xs p (i + 1), bk := D.nx } σ2 H2) (hd : ∀ xs p σ' H', xs.length = ds.length → Pv xs p xs.length σ' H' → D.nx σ' H') : tFor (iList K tl) g tu D σ H :=
  h H (Ex.refl H) _ fun p xs H1 hp e h1 hdp => ⟨p, rfl, ⟨xs, sq_of h1⟩, for_list (Pv xs p) (h0 xs p H1 hp e h1 hdp) (hl xs p) (fun i x σ' H' => hs xs p i x σ' H' (DpAll.len hdp)) (fun σ' H' => hd xs p σ' H' (DpAll.len hdp))⟩
theorem q_forLD {ds : List PyData} {g : TG} (h : EvLD K tl σ H ds) (Pv : List L2.V → Addr → Nat → L2.St → Hp → Prop) (h0 : ∀ xs p H1, H p = none → Ex H H1 → H1 p = some (.lst xs) → DpAll K H1 xs ds → Pv xs p 0 σ H1) (hl : ∀ xs p i σ' H', i ≤ xs.length → Pv xs p i σ' H' → SqL K H' p xs)
    (hs : ∀ xs p i x σ' H', xs.length = ds.length → xs[i]? = some x → Pv xs p i σ' H' → g x σ' H' fun σ2 H2 => tu { D with nx := Pv xs p (i + 1), ct := Pv xs p (i + 1), bk := tz D } σ2 H2) (hd : ∀ xs p σ' H', xs.length = ds.length → Pv xs p xs.length σ' H' → tz D σ' H') : tSeq (tFor (iList K tl) g tu) tz D σ H :=
  s_forLD (D := { D with nx := tz D }) h Pv h0 hl hs hd
def spLow (P : Program) (w : World) (K : PySem.W.Frag) : Sp := fun vs H Q _ => ∃ (ls t dc : Addr) (sums : List Int) (L : Nat) (s : Stg) (v : Int) (ps : List (Stg × Int)), vs = [.ref ls, .int (L : Int), .ref t, .ref dc] ∧ SqL K H ls (sums.map L2.V.int) ∧ SqT K H t (stV s) ∧ SOk sums L s ∧ sums.length ≤ 1000 ∧ s.2.2 ≤ 16 ∧ DAt P w K H dc (ps.map entC) ∧ certOf ps s = some v ∧ RetV (.bl (lowB sums L (certOf ps) s v)) H Q
theorem ev_dinX {σ : L2.St} {H : Hp} {ty td : TE} {a b : Addr} {kvs : List (List Key × L2.V)} {k : List Key} (h2 : Ev ty σ H (.ref b)) (h1 : Ev td σ H (.ref a)) (g : DAt P w K H a kvs) (hb : SqT K H b (k.map kV)) : Ev (tDInX P w K ty td) σ H (.bl (valV kvs k).isSome) := fun H1 e Q q =>
  h2 H1 e _ fun H2 e2 => h1 H2 (e.trans e2) _ fun H3 e3 => ⟨a, kvs, b, k, rfl, rfl, g.ext ((e.trans e2).trans e3), ex_t ((e.trans e2).trans e3) hb, q H3 (e2.trans e3)⟩
theorem ok_is_stage_low_enough {f : Addr} {fd : FuncData} {k : Nat} (F : Fun K "is_stage_low_enough" "is_stage_low_enough" s_is_stage_low_enough f fd) (B : Bs mg) (C_stage_choices : Cal P w K mg base "stage_choices" 2 ["sums", "limit", "stage"] (spCh K chP)) :
    FnOk P w K mg base CX0 (k + 3) f fd ["sums", "limit", "stage", "certificate"] (spLow P w K) := by
  refine F.ok sc_is_stage_low_enough (fun vs H Q E h => ?_) (fun cdv A outer s H vs Q E hr h => ?_)
  · obtain ⟨ls, t, dc, sums, L, s, v, ps, rfl, _⟩ := h
    rfl
  · obtain ⟨ls, t, dc, sums, L, s, v, ps, rfl, hls, hst, hok, hsl, hk16, hdc, hsv, q⟩ := h
    have hu := lt64 hr.units
    refine ⟨_, (pss_cons (ps_for PassesOwn.never rfl (pi_list (pe_callC C_stage_choices (hr.mono (by omega)) (by rfl) (pa_cons (pv 0) (pa_cons (pv 1) (pa_cons (pv 2) pa_nil))))) (pg_tup rfl (pgs_cons (pg_name (i := 4) sc_is_stage_low_enough.nd rfl (Or.inl rfl)) (pgs_cons (pg_name (i := 5) sc_is_stage_low_enough.nd rfl (Or.inl rfl)) (pgs_cons (pg_name (i := 6) sc_is_stage_low_enough.nd rfl (Or.inl rfl)) pgs_nil)))) (pss_cons (ps_if (pt_cmpR op_isN (pv 6) pe_non (nomark _)) (pss_one (ps_set (i := 7) sc_is_stage_low_enough.nd rfl (Or.inl rfl) (pv 5))) (pss_one (ps_if (pt_cmp (pc_dinX (P := P) (w := w) (K := K) ⟨rfl, rfl, rfl⟩ hu (pv 6) (pv 3))) (pss_one (ps_set (i := 7) sc_is_stage_low_enough.nd rfl (Or.inl rfl) (pe_op op_add (pv 5) (pe_dgx (P := P) (w := w) (K := K) ⟨rfl, rfl, rfl⟩ hu (pv 3) (pv 6) (fun _ _ => rfl))))) (pss_one (ps_ret pe_bl)))))
      (pss_one (ps_if (pt_cmpR op_gt (pe_dgx (P := P) (w := w) (K := K) ⟨rfl, rfl, rfl⟩ hu (pv 3) (pv 2) (fun _ _ => rfl)) (pv 7) (nomark _)) (pss_one (ps_ret pe_bl)) pss_nil))))
      (pss_one (ps_ret pe_bl))), ?_⟩
    have hsv' : valV (ps.map entC) (keyS s) = some (.int v) := by rw [cert_val, hsv]; rfl
    refine q_forLD (K := K) (eld_call (ea3 (ev_var rfl) (ev_var rfl) (ev_var rfl)) (spd_ch hls hst hok hsl (by omega)))
      (fun xs p i σ H' => ∃ a b c d : Option L2.V, σ = [some (.ref ls), some (.int (L : Int)), some (.ref t), some (.ref dc), a, b, c, d] ∧ Ex H H' ∧ H' p = some (.lst xs) ∧ DpAll K H' xs (chsD (chS sums L s)) ∧ ((chS sums L s).take i).all (okC (certOf ps) v) = true)
      (fun xs p H1 hp e1 h1 hd1 => ⟨none, none, none, none, rfl, e1, h1, hd1, by simp⟩)
      (fun xs p i σ H' _ hP => by
        obtain ⟨_, _, _, _, _, _, z, _⟩ := hP
        exact sq_of z) ?_ ?_
    · rintro xs p i x σ H1 hxl hx ⟨a, b, c, d, rfl, e1, hp1, hd1, hall⟩
      obtain ⟨dd, hdd, hxd⟩ := dp_get hd1 hx
      unfold chsD at hdd
      rw [List.getElem?_map] at hdd
      obtain ⟨ch, hch, rfl⟩ : ∃ ch, (chS sums L s)[i]? = some ch ∧ chD ch = dd := by
        cases e : (chS sums L s)[i]? with
        | none => rw [e] at hdd; cases hdd
        | some ch => rw [e] at hdd; exact ⟨ch, rfl, Option.some.inj hdd⟩
      obtain ⟨tc, n, rfl, hsc, hn⟩ := ch_at hxd
      have hnx := nx_is hn
      have hno : okC (certOf ps) v ch = false → lowB sums L (certOf ps) s v = false := fun z => by
        unfold lowB
        exact List.all_eq_false.mpr ⟨ch, List.mem_of_getElem? hch, by rw [z]; exact Bool.false_ne_true⟩
      have hyes : okC (certOf ps) v ch = true → ((chS sums L s).take (i + 1)).all (okC (certOf ps) v) = true := fun z => by
        rw [List.take_succ, hch, List.all_append, hall]
        simpa using z
      refine ⟨tc, _, rfl, hsc, rfl, _, _, rfl, _, _, rfl, _, _, rfl, rfl, ?_⟩
      refine q_if (et_test (ev_isN (ev_var rfl) ev_c)) (fun hb H2 e2 => ?_) (fun hb H2 e2 => ?_)
      · rw [hnx] at hb
        have es : ch.2.2 = none := by simpa using hb
        have ho : okC (certOf ps) v ch = decide (v ≤ ch.2.1) := by unfold okC; rw [es]
        refine s_asg (ev_var rfl) fun H3 e3 => ?_
        have e13 := (e1.trans e2).trans e3
        refine s_when (et_test (ev_op (ev_dgx (ev_var rfl) (ev_var rfl) (hdc.ext e13) (k := keyS s) (ex_t e13 hst) hsv') (ev_var rfl) rv_I0)) (fun hb H4 e4 => ?_) (fun hb H4 e4 => ?_)
        · have hgt := of_decide_eq_true hb
          rw [hno (by rw [ho]; exact decide_eq_false (by omega))] at q
          exact s_ret ev_c fun H5 e5 => q H5 ((e13.trans e4).trans e5)
        · have hgt := of_decide_eq_false hb
          exact ⟨_, _, _, _, rfl, e13.trans e4, ((e2.trans e3).trans e4) _ _ hp1, DpAll.ext ((e2.trans e3).trans e4) _ _ hd1, hyes (by rw [ho]; exact decide_eq_true (by omega))⟩
      · rw [hnx] at hb
        obtain ⟨s', es⟩ : ∃ s', ch.2.2 = some s' := by
          cases e : ch.2.2 with
          | none => rw [e] at hb; simp at hb
          | some s' => exact ⟨s', rfl⟩
        obtain ⟨t2, rfl, hst2⟩ := nx_some hn es
        have e12 := e1.trans e2
        refine s_if (et_B (ev_dinX (ev_var rfl) (ev_var rfl) (hdc.ext e12) (k := keyS s') (ex_t e2 hst2))) (fun hb H3 e3 => ?_) (fun hb H3 e3 => ?_)
        · rw [cert_val] at hb
          obtain ⟨v', hv'⟩ : ∃ v', certOf ps s' = some v' := by
            cases e : certOf ps s' with
            | none => rw [e] at hb; cases hb
            | some v' => exact ⟨v', rfl⟩
          have ho : okC (certOf ps) v ch = decide (v ≤ ch.2.1 + v') := by unfold okC; rw [es]; simp only [hv']
          have hv2 : valV (ps.map entC) (keyS s') = some (.int v') := by rw [cert_val, hv']; rfl
          refine s_asg (ev_add (ev_var rfl) (ev_dgx (ev_var rfl) (ev_var rfl) (hdc.ext (e12.trans e3)) (k := keyS s') (ex_t (e2.trans e3) hst2) hv2)) fun H4 e4 => ?_
          have e14 := (e12.trans e3).trans e4
          refine s_when (et_test (ev_op (ev_dgx (ev_var rfl) (ev_var rfl) (hdc.ext e14) (k := keyS s) (ex_t e14 hst) hsv') (ev_var rfl) rv_I0)) (fun hb H5 e5 => ?_) (fun hb H5 e5 => ?_)
          · have hgt := of_decide_eq_true hb
            rw [hno (by rw [ho]; exact decide_eq_false (by omega))] at q
            exact s_ret ev_c fun H6 e6 => q H6 ((e14.trans e5).trans e6)
          · have hgt := of_decide_eq_false hb
            exact ⟨_, _, _, _, rfl, e14.trans e5, (((e2.trans e3).trans e4).trans e5) _ _ hp1, DpAll.ext (((e2.trans e3).trans e4).trans e5) _ _ hd1, hyes (by rw [ho]; exact decide_eq_true (by omega))⟩
        · rw [cert_val] at hb
          have hv' : certOf ps s' = none := by
            cases e : certOf ps s' with
            | none => rfl
            | some v' => rw [e] at hb; cases hb
          have ho : okC (certOf ps) v ch = false := by unfold okC; rw [es]; simp only [hv']
          rw [hno ho] at q
          exact s_ret ev_c fun H4 e4 => q H4 ((e12.trans e3).trans e4)
    · rintro xs p σ H1 hxl ⟨a, b, c, d, rfl, e1, hp1, hd1, hall⟩
      have e0 : xs.length = (chS sums L s).length := by rw [hxl]; exact List.length_map _
      rw [e0, List.take_length] at hall
      have hl : lowB sums L (certOf ps) s v = true := hall
      rw [hl] at q
      exact s_ret ev_c fun H2 e2 => q H2 (e1.trans e2)
end
end K06
set_option Elab.async false
set_option linter.all false
set_option maxRecDepth 100000
set_option maxHeartbeats 4000000
namespace K06
open PySem PySem.Spec PyProof.Rows L2 StX GX KC Evl M01
structure GT (mg : Str → Option Value) (tk : Tok) : Prop where
  g_LONGEST : mg "LONGEST" = some (.int 20 tk)
section
variable {P : Program} {w : World} {K : PySem.W.Frag} {mg : Str → Option Value} {base : Heap}
def fS (x : Int) : Int := 1 * 2 ^ (20 - x).toNat
theorem kraft_filter : ∀ ls : List Int, Lok ls → ((ls.filter fun x => !decide (x = 0)).map fS).sum = kraft ls
  | [], _ => rfl
  | x :: r, h => by
    have ih := kraft_filter r fun y hy => h y (List.mem_cons_of_mem _ hy)
    have hx := h x List.mem_cons_self
    have e : kraft (x :: r) = share x + kraft r := rfl
    rw [e, ← ih]
    by_cases z : x = 0
    · subst z
      rw [List.filter_cons, if_neg (by decide)]
      show _ = 0 + _
      rw [Int.zero_add]
    · rw [List.filter_cons, if_pos (by simpa using z), List.map_cons, List.sum_cons]
      have : fS x = share x := by
        unfold fS share
        rw [if_neg z, Int.one_mul]
        congr 1
        omega
      rw [this]
theorem fS_bd {x : Int} (h : 0 ≤ x ∧ x ≤ 20) : 0 ≤ fS x ∧ fS x ≤ 2 ^ 40 := by
  unfold fS
  have : ∀ y : Fin 21, (0 : Int) ≤ 1 * 2 ^ y.val ∧ (1 : Int) * 2 ^ y.val ≤ 2 ^ 40 := by decide
  exact this ⟨(20 - x).toNat, by omega⟩
def spRoom (K : PySem.W.Frag) (Pt : Addr) : Sp := fun vs H Q _ => ∃ (l : Addr) (ls : List Int), vs = [.ref l] ∧ SqL K H l (ls.map V.int) ∧ Lok ls ∧ ls.length ≤ 100 ∧ H Pt = some (TabX Pt) ∧ ∀ H2, Ex H H2 → Q (.int (roomL ls)) H2
theorem ok_room {f c Pt : Addr} {fd : FuncData} {k : Nat} {tk : Tok} (F : FunT K "room" "room" s_room f fd c) (TB : GxR.TabB base mg c Pt) (T : GT mg tk) (B : Bs mg) : FnOk P w K mg base CX0 (k + 7) f fd ["lengths"] (spRoom K Pt) := by
  refine F.ok sc_room (fun vs H Q E h => ?_) (fun A outer s H vs Q E hr h => ?_)
  · obtain ⟨l, ls, rfl, _⟩ := h
    rfl
  · obtain ⟨l, ls, rfl, hs, hok, hn, htab, q⟩ := h
    refine ⟨_, (pss_cons (ps_set (i := 1) sc_room.nd rfl (Or.inr rfl) (pe_callB (cr_max rfl) (by rfl) B.max (by decide +kernel) (pa_cons (pe_lst (pa_cons (pe_glob (v := .int 20) (by rfl) T.g_LONGEST ⟨_, rfl⟩) (pa_star (pv 0) pa_nil))) pa_nil)))
      (pss_cons (ps_set (i := 2) sc_room.nd rfl (Or.inl rfl) (pe_sumG (k := 0) (pgx_gen (g := (gName 0)) (N' := ["length", "depth"]) (cm := [none, some 1]) (own := [0]) (k0 := 0) (k := 0) (hr.mono (by omega)) TB rfl (capOk_by (N := ["lengths", "depth", "taken"]) (sc := defScope s_room) (by decide +kernel)) (pi_list (pv 0)) (fun _ _ _ _ _ _ _ _ hr => (pg_name (i := 0) (show List.Nodup (["length", "depth"] : List Str) by decide +kernel) rfl (Or.inl rfl))) (fun _ _ _ _ _ _ _ _ hr => (pts_one (pt_cmpR op_ne (pv 0) pe_int (nomark _)))) (fun _ _ _ _ _ _ _ _ hr => (pe_op op_shl pe_int (pe_op op_sub (pv 1) (pv 0))))) (hr.mono (by omega)) (by rfl) B.sum))
      (pss_one (ps_ret (pe_op op_shr (pe_op op_sub (pe_op op_shl pe_int (pv 1)) (pv 2)) (pe_op op_sub (pv 1) (pe_glob (v := .int 20) (by rfl) T.g_LONGEST ⟨_, rfl⟩))))))), ?_⟩
    refine q_asg (v := .int 20) (ev_maxStar ev_c (ev_var rfl) hs (fun x hx => (hok x hx).2) (by omega)) fun H1 e1 => ?_
    refine q_asg (v := .int (kraft ls)) ?_ fun H2 e2 => ?_
    · have h1 := ev_sumLF (K := K) (σ := [some (.ref l), some (.int 20), none]) (H := H1) (tl := tVar 0) (tt := tTest (tOp rNe (tVar 0) (tC (.int 0)))) (te := tOp (rI CPow fun i j => .int (i * 2 ^ j.toNat)) (tC (.int 1)) (tOp (rI0 fun i j => .int (i - j)) (tVar 1) (tVar 0))) (Pt := Pt) (cm := [none, some 1]) (own := [0])
        fS (fun x => !decide (x = 0)) (ev_var rfl) (ex_l e1 hs) (by omega) (e1 Pt _ htab) (fun x hx => fS_bd (hok x hx)) (fun x => rfl) (fun x hx H3 e3 => et_test (ev_ne (ev_var rfl) ev_c)) (fun x hx hb H3 e3 => ev_op ev_c (ev_sub (i := 20) (ev_var rfl) (ev_var rfl)) (rv_shl ⟨by have := hok x hx; omega, by have := hok x hx; omega, by decide⟩))
      rw [kraft_filter ls hok] at h1
      exact h1
    · refine s_ret (v := .int (roomL ls)) (ev_is (ev_op (ev_sub (ev_op ev_c (ev_var (v := .int 20) rfl) (rv_shl (by decide))) (ev_var rfl)) (ev_sub (ev_var (v := .int 20) rfl) ev_c) (rv_shr (by decide))) ?_) fun H3 e3 => q H3 ((e1.trans e2).trans e3)
      unfold roomL
      congr 1
      show ((1 : Int) * 2 ^ 20 - kraft ls) / 2 ^ 0 = _
      omega
theorem sp_room {H : Hp} {l Pt : Addr} {ls : List Int} (hs : SqL K H l (ls.map V.int)) (h : Lok ls) (hn : ls.length ≤ 100) (ht : H Pt = some (TabX Pt)) : SpV (spRoom K Pt) ([.ref l] ++ []) H (.int (roomL ls)) := fun H1 e1 Q q E => ⟨l, ls, rfl, ex_l e1 hs, h, hn, e1 Pt _ ht, q⟩
end
end K06
namespace K06
open PySem PySem.Spec PyProof.Rows L2 GX KC Evl M03
section
variable {P : Program} {w : World} {K : PySem.W.Frag} {mg : Str → Option Value} {base : Heap}
theorem weightOf_bd (c : Int) : 0 ≤ weightOf c ∧ weightOf c ≤ 1000000 := by
  unfold weightOf
  split
  · omega
  · split <;> omega
theorem weightsL_at {ns : List Int} {f n i : Nat} (h : i < n) : (weightsL ns f n).getD i 0 = weightOf (cellOf ns (f + i)) := by
  unfold weightsL
  rw [List.getD_eq_getElem?_getD, List.getElem?_map, List.getElem?_range h] <;> rfl
theorem given_all (n : Nat) (v : Nat → Int) : given n (fun _ => true) (fun k => V.int (v k)) = ((List.range n).map v).map V.int := by
  unfold given
  rw [List.filter_eq_self.mpr fun _ _ => rfl, List.map_map] <;> rfl
theorem nats_ints (a : List Nat) : nats a = (a.map fun (k : Nat) => (k : Int)).map V.int := by
  unfold nats
  rw [List.map_map] <;> rfl
theorem sp_ranksP {H : Hp} {l Pt : Addr} {ws : List Int} (hs : SqL K H l (ws.map V.int)) (hn : ws.length ≤ 64) (ht : H Pt = some (TabX Pt)) : SpL (spRanksP K Pt) ([.ref l] ++ []) H (nats (rankL ws)) := fun H1 e1 Q q E =>
  ⟨l, ws, rfl, ex_l e1 hs, hn, e1 Pt _ ht, fun p H2 hp e2 h2 => q p H2 hp e2 h2⟩
theorem sp_weights {H : Hp} {l : Addr} {ns : List Int} {f n : Nat} {i j : Int} (hs : SqL K H l (ns.map V.int)) (hn : n ≤ 1000) (ei : i = (f : Int)) (ej : j = (n : Int)) : SpL (spWeights K) ([.ref l, .int i, .int j] ++ []) H ((weightsL ns f n).map V.int) := fun H1 e1 Q q E =>
  ⟨l, ns, f, n, by rw [ei, ej]; rfl, ex_l e1 hs, hn, fun p H2 hp e2 h2 => q p H2 hp e2 h2⟩
theorem sp_lim {H : Hp} {n : Nat} : SpV spLim ([.int (n : Int)] ++ []) H (.int (llim n : Nat)) := fun H1 e1 Q q E => ⟨n, rfl, q⟩
end
end K06
set_option Elab.async false
set_option linter.all false
set_option maxRecDepth 100000
set_option maxHeartbeats 4000000
/-! A walk over the keys of a dict with tuple keys. -/
namespace KC
open PySem PySem.Spec PyProof.Rows L2 GX Evl
/-- the key tuples of the dict at d, as long as it stands there as it was -/
def Itx (d : Addr) (ho : HO) (bs : List Addr) : It :=
  ⟨fun i H => H d = some ho ∧ i < bs.length, fun i H x H' => H' = H ∧ ∃ q, bs[i]? = some q ∧ x = .ref q, fun i H => H d = some ho ∧ bs.length ≤ i⟩
section
variable {P : Program} {w : World} {K : PySem.W.Frag} {tg : Expr} {d : Addr} {o : Obj} {es : Array DictEntry} {ep : Nat}
theorem turn_dX {xs : List (List Key × Addr × Value)} (it : Addr) (hod : o.data = .dict es ep) (hen : es.toList = xs.map (entryOfKey (tupleKind (mixKind P w)))) : Turn P w K tg (Itx d (DX P w d xs o) (xs.map fun x => x.2.1)) [it] it (fun i h => h.IsKeyIter it d i xs.length ep) where
  mem := by simp
  obj := fun i h st b hb => by
    have e : b = it := by simpa using hb
    subst e
    obtain ⟨oi, e, c, dd⟩ := st
    exact ⟨oi, e, fun v z => by rw [dd] at z; cases z⟩
  keep := fun i h h' st k => st.at fun oi e => k it (by simp) oi e
  item := by
    intro X hP hw hK hc i pins s σ H E I hf st hg
    subst hP hw hK
    obtain ⟨hd, hi⟩ := hg
    obtain ⟨f0, f1, f2, f3, f4, f5⟩ := hf it (by simp)
    obtain ⟨z, y, es', ep', hgd, hx, hdt, he, hn⟩ := (show DXp X.prog X.w d xs o s.heap from (show ObjOk X.prog X.w H s.heap d (DX X.prog X.w d xs o) from I.hok d _ hd).1)
    obtain ⟨rfl, rfl⟩ := dict_ep hod hdt
    have hsz : es'.size = xs.length := size_of_entries he
    rw [List.length_map] at hi
    have hxi : xs[i]? = some xs[i] := List.getElem?_eq_getElem hi
    generalize xs[i] = x at hxi
    have hei : es'[i]? = some (entryOfKey (tupleKind (mixKind X.prog X.w)) x) := by rw [entry_at he i, hxi]; rfl
    refine next_key_item st hgd hdt hsz hei fun h' st' sb => ?_
    have I1 : Inv X pins σ H { s with heap := h' } := I.turned (t' := s.toks) (fun b ob hb e => (sb.2 b hb).trans e) f0 f1 f3 f4 f5
    obtain ⟨oi, e, c, dd⟩ := id st'
    exact ⟨.ref x.2.1, rfl, go_of (s := { s with heap := h' }) e c dd (by decide) ⟨.ref x.2.1, H, I1, rfl, ⟨rfl, x.2.1, by rw [List.getElem?_map, hxi]; rfl, rfl⟩, st', fun b hb => (hf b hb).1⟩⟩
  done := by
    intro X hP hw hK hc i pins s σ H E I hf st hg
    subst hP hw hK
    obtain ⟨hd, hi⟩ := hg
    obtain ⟨f0, f1, f2, f3, f4, f5⟩ := hf it (by simp)
    obtain ⟨z, y, es', ep', hgd, hx, hdt, he, hn⟩ := (show DXp X.prog X.w d xs o s.heap from (show ObjOk X.prog X.w H s.heap d (DX X.prog X.w d xs o) from I.hok d _ hd).1)
    obtain ⟨rfl, rfl⟩ := dict_ep hod hdt
    have hsz : es'.size = xs.length := size_of_entries he
    rw [List.length_map] at hi
    exact next_key_end (I.ok.hd hc) st hgd hdt hsz hi fun h' eb => ⟨rfl, I.turned (t' := s.toks) (fun b ob hb e => eb b ob hb e) f0 f1 f3 f4 f5⟩
  self := fun A i s Q E st h => by
    refine wpAny_pyIter_slot st.typeIs PySem.F.slot_dict_keyiterator_iter (wpAny_call_entry PySem.F.slot_dict_keyiterator_iter st.typeIs PySem.F.entry_dict_keyiterator_iter ?_ (PySem.F.args_dict_keyiterator_iter_1 _))
    show wpAny _ _ (ret (.ref it)) _ _ s
    exact wpAny_pure ⟨_, rfl, "dict_keyiterator", _, st.typeIs, PySem.F.slot_dict_keyiterator_next.lookup, h⟩
end
def iDX (P : Program) (w : World) (td : TE) : TI := fun σ H R => td σ H fun x H1 => ∃ d xs o, x = .ref d ∧ H1 d = some (DX P w d xs o) ∧ R (Itx d (DX P w d xs o) (xs.map fun x => x.2.1)) H1
section
variable {X : Cx} {P : Program} {w : World} {K : PySem.W.Frag} {tg e : Expr} {td : TE}
theorem pi_dX (hX : X.prog = P ∧ X.w = w ∧ X.K = K) (he : PE X e td) : PI X tg e (iDX P w td) := by
  obtain ⟨rfl, rfl, rfl⟩ := hX
  refine ⟨fun pins s σ H R I h => ?_⟩
  refine thn (he.run pins s σ H _ I h) fun u s1 ⟨x, H1, I1, rx, d, xs, o, ex, hd, q⟩ => ?_
  subst ex
  obtain rfl : u = Value.ref d := rx
  obtain ⟨z, hs, es, ep, hgd, hx, hdt, hent, hn⟩ := (show DXp X.prog X.w d xs o s1.heap from (show ObjOk X.prog X.w H1 s1.heap d (DX X.prog X.w d xs o) from I1.hok d _ hd).1)
  have hsz : es.size = xs.length := size_of_entries hent
  refine iter_keys hs hgd hx hdt (pi_one (tk := s1.toks) I1 _ (turn_dX _ hdt hent) ⟨_, Heap.get?_push_size _ rfl, rfl, ?_⟩ q)
  rw [hsz] <;> rfl
end
end KC
set_option Elab.async false
set_option linter.all false
set_option maxRecDepth 100000
set_option maxHeartbeats 4000000
/-! A dict comprehension whose keys are tuples: it makes a dict of Kt's kind. (The walk through the block follows the order of the kit's rule for flat keys, which can't say what stands at the dict here.) -/
namespace KC
open PySem PySem.Spec PyProof.Rows L2 GX Evl
section
variable {X : Cx} {pins : List (Addr × Obj)} {σ : L2.St} {H : Hp} {s : Shared} {a b : Addr} {kvs : List (List Key × L2.V)} {k : List Key} {v : L2.V} {r : Value} {E : Value → Shared → Prop}
theorem dx_dictSet {Q : Unit → Shared → Prop} (hu : X.A.units < cLine) (I : Inv X pins σ H s) (g : DAt X.prog X.w X.K H a kvs) (hb : SqT X.K H b (k.map kV)) (hl : kvs.length < sizeLine) (rv : RelV v r)
    (h : ∀ H' s', DAt X.prog X.w X.K H' a (putK kvs k v) → (∀ c, c ≠ a → H' c = H c) → Inv X pins σ H' s' → Q () s') : wpAny (model X.prog X.w) X.A (dictSet a (.ref b) r) Q E s := by
  obtain ⟨xs, o, e, rel⟩ := g
  obtain ⟨z, hd, dd⟩ := dx_heap I e rel
  have hl2 := Paired.length rel
  refine wpAny_dictSet_heap (hsz := z) (show (tupleKind (mixKind X.prog X.w)).room X.A from hu) (key_ofX I hb) dd fun h' dd' hs => ?_
  obtain ⟨q, es, ep, hq, h2, h3, h4, _, h5⟩ := dd'
  have rel2 := rel.put k hb rv
  have hl3 : (storedH xs k b r).length ≤ sizeLine := by
    have := Paired.length rel2
    have := length_putK kvs k v
    omega
  refine h (upd H a (DX X.prog X.w a (storedH xs k b r) q)) _ ⟨_, _, upd_same, rel2.keeps fun c ys ec => sqt_ext ec e⟩ (fun c hc => upd_ne hc) ?_
  exact d_write I (by rw [e]; exact True.intro) hs ⟨q, hq⟩ (dx_ok ⟨hl3, hd, es, ep, hq, h2, h3, h4, h5⟩)
end
/-- {key: value for .. in .. if ..} -/
def tDcX (P : Program) (w : World) (K : PySem.W.Frag) (wi : TI) (g : TG) (tt : TT) (tk tv : TE) (vs : List Nat) : TE := fun σ H Q => wi σ H fun J H1 => ∀ D, H1 D = none → ∃ W : Nat → Nat → Hp → Prop, (∃ m, W 0 m (upd H1 D (DX P w D [] newD))) ∧ ∀ i m H, W i m H →
  (J.stop i H ∧ Q (.ref D) H) ∨ (J.go i H ∧ ∃ Nx : Hp → Prop, (∀ H', Nx H' → ∃ m', m' < m ∧ W (i + 1) m' H') ∧ ∀ x H', J.yld i H x H' → g x (wipe σ vs) H' fun σ2 H2 => wipe σ2 vs = wipe σ vs ∧ tt σ2 H2 fun b H3 =>
    if b = true then tk σ2 H3 fun y H4 => tv σ2 H4 fun z H5 => ∃ kvs c k, y = .ref c ∧ DAt P w K H5 D kvs ∧ SqT K H5 c (k.map kV) ∧ kvs.length < sizeLine ∧ ∀ H6, DAt P w K H6 D (putK kvs k z) → (∀ c, c ≠ D → H6 c = H5 c) → Nx H6 else Nx H3)
section
variable {X : Cx}
theorem dcx_core {pins : List (Addr × Obj)} {s : Shared} {σ : L2.St} {H : Hp} {Q : VK} {kx vx tg iter : Expr} {ifs : List Expr} {scope : Scope} {own : List (Str × Nat)} {pos pos' : Pos} {wi : TI} {g : TG} {tt : TT} {tk tv : TE} {use : Option (Value → Sem Unit)} {Qf : Value → Shared → Prop}
    (hu : X.A.units < cLine) (hc : X.calm = true) (hN : X.N.Nodup) (I : Inv X pins σ H s) (hi : PI X tg iter wi) (ok : BlkOk X.N X.env.scope scope own)
    (hg : ∀ (s : Shared) (H : Hp) (C : Addr) (cl : List (Str × Addr)) (fp : List Addr), PG (X.blk s H scope (compEnvC scope cl C X.env) fp) tg g) (ht : ∀ (s : Shared) (H : Hp) (C : Addr) (cl : List (Str × Addr)) (fp : List Addr), PTs (X.blk s H scope (compEnvC scope cl C X.env) fp) ifs tt)
    (hk : ∀ (s : Shared) (H : Hp) (C : Addr) (cl : List (Str × Addr)) (fp : List Addr), PE (X.blk s H scope (compEnvC scope cl C X.env) fp) kx tk)
    (he : ∀ (s : Shared) (H : Hp) (C : Addr) (cl : List (Str × Addr)) (fp : List Addr), PE (X.blk s H scope (compEnvC scope cl C X.env) fp) vx tv) (hs : ∀ x, foldedSetIterable iter X.env x = pure x)
    (h : tDcX X.prog X.w X.K wi g tt tk tv (own.map (·.2)) σ H Q)
    (hRR : ∀ D C s' m H', Inv X pins σ H' s' → Q (.ref D) H' → s'.heap.Ns C m → FpOk X pins H' C → compPost (model X.prog X.w) X.A X.xe use Qf (.ref D) C (.ok .next) s') :
    wpAny (model X.prog X.w) X.A (comprehension (.DictComp kx vx [⟨tg, iter, ifs, 0⟩] scope pos) scope X.env pos' newDict false (eval iter X.env) use) Qf X.xe s := by
  have free : ∀ y ∈ scope.names, y.2 = .free → ∃ c, X.env.cells.lookup y.1 = some c := fun y hy e => (ok.free y hy e).elim (fun k => I.ok.has _ (.inl k)) fun k => I.ok.has _ (.inr k)
  refine wpAny_comprehension_free (use := use) rfl hs (closure_ok free) ok.kind (fun y hy e => by rw [ok.uniq y hy, e]) (thn (hi.run pins s σ H _ I h) fun xv s1 hx => thn hx fun itv s2 h2 => ?_)
  obtain ⟨it, fp, tn, J, H2, rfl, I2, T, st2, f2, q⟩ := h2
  refine wpAny_newObj_type (newEnv_comp ?_)
  generalize hD : s2.heap.objs.size = D
  obtain ⟨W, ⟨m0, w0⟩, turn⟩ := q D (I2.hok.fresh (Nat.le_of_eq hD))
  -- the dict is there
  generalize hs3 : ({ s2 with heap := s2.heap.push { cls := .type "dict", data := .dict #[] } } : Shared) = s3
  have h3 : s3.heap = s2.heap.push { cls := .type "dict", data := .dict #[] } := by rw [← hs3]
  have I3 : Inv X pins σ (upd H2 D (DX X.prog X.w D [] newD)) s3 := by
    subst hs3 hD
    refine I2.laid (t' := s2.toks) (fun b o e => Heap.get?_push_of_some _ e) (Nat.le_refl _) (dx_ok ?_)
    exact ⟨Nat.zero_le _, beq_eq_false_iff_ne.mpr (Ne.symm (Nat.ne_of_lt I2.big)), #[], 0, Heap.get?_push_size _ rfl, ⟨rfl, rfl, rfl⟩, rfl, rfl, List.nodup_nil⟩
  have lt : ∀ b ∈ fp, b < s2.heap.objs.size := fun b hb => let ⟨_, e, _⟩ := T.obj _ _ st2 b hb; Heap.lt_size e
  have f3 : ∀ b ∈ fp, FpOk X pins (upd H2 D (DX X.prog X.w D [] newD)) b ∧ b < s3.heap.objs.size := fun b hb =>
    ⟨⟨by rw [upd_ne (by rw [← hD]; exact Nat.ne_of_lt (lt b hb))]; exact (f2 b hb).1, (f2 b hb).2⟩, by rw [h3, Heap.size_push]; exact Nat.lt_succ_of_lt (lt b hb)⟩
  have I4 := block_start I3 ok hN f3
  generalize hC : s3.heap.objs.size = C at I4 f3
  generalize hcl : cellsFrom (C + 1) scope.names (cloFrom X.env.cells scope.names []) = cl at I4
  show codeAny _ _ (.compStart (.DictComp kx vx [⟨tg, iter, ifs, 0⟩] scope pos) 0 (.ref it) (.ref D) (compEnvC scope cl C X.env)) (compPost (model X.prog X.w) X.A X.xe use Qf (.ref D) C) { s3 with heap := pushCells (s3.heap.push { cls := .type "dict", data := .dict #[] }) scope.names }
  have pg := hg s3 (upd H2 D (DX X.prog X.w D [] newD)) C cl fp
  have pt := ht s3 (upd H2 D (DX X.prog X.w D [] newD)) C cl fp
  have pk := hk s3 (upd H2 D (DX X.prog X.w D [] newD)) C cl fp
  have pe := he s3 (upd H2 D (DX X.prog X.w D [] newD)) C cl fp
  have nf3 : ∀ b ∈ fp, (upd H2 D (DX X.prog X.w D [] newD)) b = none := fun b hb => (f3 b hb).1.1
  generalize hce : compEnvC scope cl C X.env = ce at I4 pg pt pk pe ⊢
  have cL : ce.locals = C := by subst hce; rfl
  generalize upd H2 D (DX X.prog X.w D [] newD) = H3 at I3 I4 pg pt pk pe w0 nf3 f3
  generalize hs4 : ({ s3 with heap := pushCells (s3.heap.push { cls := .type "dict", data := .dict #[] }) scope.names } : Shared) = s4 at I4 ⊢
  have st4 : tn 0 s4.heap := T.keep _ _ _ st2 fun b _ o e => by rw [← hs4]; exact pushCells_keeps _ _ _ _ (Heap.get?_push_of_some _ (by rw [h3]; exact Heap.get?_push_of_some _ e))
  have own' : ∀ {σ' : L2.St} {H' : Hp} {s' : Shared}, Inv (X.blk s3 H3 scope ce fp) [] σ' H' s' → (∀ b ∈ fp, H' b = none) → ∀ b ∈ fp, FpOk (X.blk s3 H3 scope ce fp) [] H' b := fun {σ' H' s'} I' hn b hb =>
    ⟨hn b hb, (I'.ok.exf b hb).1, I'.ok.exfs b hb, .inl hb, fun x c e => (I'.ok.exf b hb).2 x c e, fun p hp => absurd (show p ∈ ([] : List (Addr × Obj)) ++ [] from hp) (by simp)⟩
  have loop : codeAny (model X.prog X.w) X.A (.compLoop (.DictComp kx vx [⟨tg, iter, ifs, 0⟩] scope pos) 0 (.ref it) (.ref D) ce) (compPost (model X.prog X.w) X.A X.xe use Qf (.ref D) C) s4 := by
    refine compLoop_anyD (fun n s' => ∃ i H', Inv (X.blk s3 H3 scope ce fp) [] (wipe σ (own.map (·.2))) H' s' ∧ tn i s'.heap ∧ (∀ b ∈ fp, H' b = none) ∧ W i n H') ?_ m0 ⟨0, H3, I4, st4, nf3, w0⟩
    rintro n s5 ⟨i, H5, I5, st5, n5, w5⟩
    rcases turn i n H5 w5 with ⟨stop, qq⟩ | ⟨go, Nx, hNx, step⟩
    · refine thnF (T.done (X.blk s3 H3 scope ce fp) rfl rfl rfl hc i [] s5 _ H5 (fun _ _ => False) I5 (own' I5 n5) st5 stop) fun r s6 ⟨hr, I6⟩ => ?_
      subst hr
      have I7 : Inv X pins σ H5 s6 := I3.call' (ch := fp) I6.os I6.base I6.hok I6.bare fun b hb => ⟨(f3 b hb).1.2.2.2.1, (f3 b hb).1.2.1, (f3 b hb).1.2.2.2.2.1, (f3 b hb).1.2.2.2.2.2⟩
      have nC : H5 C = none := by
        have z : H5 ce.locals = none := I6.free
        rwa [cL] at z
      obtain ⟨m, hn, _⟩ := I6.loc
      have hn : s6.heap.Ns ce.locals m := hn
      rw [cL] at hn
      exact hRR D C s6 m H5 I7 qq hn (I3.fpOk (Nat.le_of_eq hC) nC)
    · refine thnF (T.item (X.blk s3 H3 scope ce fp) rfl rfl rfl hc i [] s5 _ H5 (fun _ _ => False) I5 (own' I5 n5) st5 go) fun r s6 ⟨u, hr, h6⟩ => ?_
      subst hr
      refine thnF h6 fun _ s7 ⟨x, H7, I7, r7, y7, st7, n7⟩ => ?_
      refine thnF (pg.run _ s7 _ H7 x u _ (I7.pinned (own' I7 n7) (T.obj _ _ st7)) r7 (step x H7 y7)) fun _ s8 ⟨σ8, H8, I8, hw8, q8⟩ => thnF (pt.run _ s8 σ8 H8 _ I8 q8) fun b s9 ⟨H9, I9, q9⟩ => ?_
      have fin : ∀ {s' : Shared} {H' : Hp}, Inv (X.blk s3 H3 scope ce fp) ([] ++ pinsAt fp s7.heap) σ8 H' s' → Nx H' → ∃ m, m < n ∧ ∃ i H', Inv (X.blk s3 H3 scope ce fp) [] (wipe σ (own.map (·.2))) H' s' ∧ tn i s'.heap ∧ (∀ b ∈ fp, H' b = none) ∧ W i m H' := fun {s' H'} I' nx => by
        obtain ⟨m', hm, w'⟩ := hNx H' nx
        have same : ∀ b ∈ fp, ∀ o, s7.heap.get? b = some o → s'.heap.get? b = some o ∧ H' b = none := fun b hb o e =>
          let z := I'.pin (b, o) (List.mem_append_right _ (List.mem_append_right _ (mem_pinsAt hb e)))
          ⟨z.1, z.2.1⟩
        refine ⟨m', hm, i + 1, H', (I'.unpinned (pins := [])).weak (by rw [← hw8, wipe_length]) (fun j v e => ?_), T.keep _ _ _ st7 fun b hb o e => (same b hb o e).1, fun b hb => ?_, w'⟩
        · rw [← hw8] at e
          exact (wipe_some e).1
        · obtain ⟨o, e, _⟩ := T.obj _ _ st7 b hb
          exact (same b hb o e).2
      cases b with
      | false =>
        simp only [Bool.false_eq_true, if_false] at q9 ⊢
        exact fin I9 q9
      | true =>
        simp only [if_true] at q9 ⊢
        refine thnF (pk.run _ s9 σ8 H9 _ I9 q9) fun z s10 ⟨yk, H10, I10, r10, q10⟩ => thnF (pe.run _ s10 σ8 H10 _ I10 q10) fun z2 s11 ⟨yv, H11, I11, r11, kvs, c, k, ek, hD11, hc11, hz11, nx⟩ => ?_
        subst ek
        obtain rfl : z = Value.ref c := r10
        exact dx_dictSet (X := X.blk s3 H3 scope ce fp) hu I11 hD11 hc11 hz11 r11 fun H12 s12 d12 k12 I12 => fin I12 (nx H12 d12 k12)
  exact codeAny_compStart_dict loop (T.self X.A 0 _ _ _ st4 loop)
theorem ps_setDcX {P : Program} {w : World} {K : PySem.W.Frag} {i : Nat} {y : Str} {py : Pos} {kx vx tg iter : Expr} {ifs : List Expr} {scope : Scope} {own : List (Str × Nat)} {pos spos : Pos} {wi : TI} {g : TG} {tt : TT} {tk tv : TE} (hX : X.prog = P ∧ X.w = w ∧ X.K = K) (hu : X.A.units < cLine) (hc : X.calm = true) (hN : X.N.Nodup) (hy : X.N[i]? = some y) (hyl : X.env.scope.names.lookup y = some .local)
    (hsw : swapsWith (.DictComp kx vx [⟨tg, iter, ifs, 0⟩] scope pos) (some (.Name y py)) spos.line X.env = pure true) (hi : PI X tg iter wi) (ok : BlkOk X.N X.env.scope scope own)
    (hg : ∀ (s : Shared) (H : Hp) (C : Addr) (cl : List (Str × Addr)) (fp : List Addr), PG (X.blk s H scope (compEnvC scope cl C X.env) fp) tg g) (ht : ∀ (s : Shared) (H : Hp) (C : Addr) (cl : List (Str × Addr)) (fp : List Addr), PTs (X.blk s H scope (compEnvC scope cl C X.env) fp) ifs tt)
    (hk : ∀ (s : Shared) (H : Hp) (C : Addr) (cl : List (Str × Addr)) (fp : List Addr), PE (X.blk s H scope (compEnvC scope cl C X.env) fp) kx tk)
    (he : ∀ (s : Shared) (H : Hp) (C : Addr) (cl : List (Str × Addr)) (fp : List Addr), PE (X.blk s H scope (compEnvC scope cl C X.env) fp) vx tv) (hs : ∀ x, foldedSetIterable iter X.env x = pure x := by intro _; rfl) :
    PS X (.Assign [.Name y py] (.DictComp kx vx [⟨tg, iter, ifs, 0⟩] scope pos) spos) (tAsg (tDcX P w K wi g tt tk tv (own.map (·.2))) (gName i)) := by
  obtain ⟨rfl, rfl, rfl⟩ := hX
  refine ⟨fun pins s σ H D I h => ?_⟩
  rw [exec_Assign_Name_used _ _ _ _ hsw]
  refine wpAny_bind (wpAny_standAt (wpAny_bind ?_))
  show wpAny _ X.A (do let _ ← comprehension (.DictComp kx vx [⟨tg, iter, ifs, 0⟩] scope pos) scope X.env (firstIterPos [⟨tg, iter, ifs, 0⟩] pos) newDict false (eval iter X.env) (some (assign (.Name y py) X.env))) _ _ s
  have h : tDcX X.prog X.w X.K wi g tt tk tv (own.map (·.2)) σ H (fun x H1 => gName i x σ H1 D.nx) := h
  refine wpAny_bind (thn (dcx_core (Qf := fun _ s' => SP X pins D .next s') hu hc hN I hi ok hg ht hk he hs h fun L C s' m H' I' q hn f => ?_) fun _ s' hq => wpAny_pure (wpAny_pure hq))
  show wpAny _ _ (assign (.Name y py) X.env (.ref L)) _ _ _
  refine wpAny_assign_Name (store_ok2 (v := L2.V.ref L) I' hN hy (.inl hyl) rfl (fun s2 I2 ⟨a, sb, ha⟩ => ?_) (.inr hyl))
  obtain ⟨f0, f1, f2, f3, f4, f5⟩ := f
  have haC : C ≠ a := ha.elim (fun z => by rw [z]; exact f1) fun z e => f4 y a z e.symm
  exact ⟨m, hn.sameBut sb haC, fun h3 sb3 => ⟨_, H', I2.turned (t' := s2.toks) (fun b o hb e => (sb3.2 b hb).trans e) f0 f1 f3 f4 f5, q⟩⟩
theorem sw_dict {kx vx : Expr} {gs : List Comprehension} {scope : Scope} {pos py : Pos} {y : Str} {l : Nat} {env : Env} (hk : env.scope.kind = .function) (hy : env.scope.names.lookup y = some .local) (hl : (py.line == pos.line) = true)
    (ha : (scope.names.any fun (n, k) => n == y && (k == .local || k == .cell)) = false) : swapsWith (.DictComp kx vx gs scope pos) (some (.Name y py)) l env = pure true := by
  have e1 : env.kindOf y = some .local := hy
  have e2 : env.blockKind = .function := by unfold Env.blockKind; rw [hk]; rfl
  unfold swapsWith
  simp only [e1, e2, ha, Expr.pos, hl]
  rfl
end
end KC
set_option Elab.async false
set_option linter.all false
set_option maxRecDepth 100000
set_option maxHeartbeats 4000000
/-! all(..) over a list of ints, and over the keys of a dict with tuple keys. -/
namespace KC
open PySem PySem.Spec PyProof.Rows L2 StX GX Evl
theorem pair_at {α β : Type} {F : α → β → Prop} : ∀ {xs : List α} {ys : List β}, Paired F xs ys → ∀ {i : Nat} {x : α} {y : β}, xs[i]? = some x → ys[i]? = some y → F x y
  | _, _, .nil, i, x, y, h, _ => by simp at h
  | _, _, .cons a _, 0, x, y, h1, h2 => by
    obtain rfl := Option.some.inj (show some _ = some _ from h1)
    obtain rfl := Option.some.inj (show some _ = some _ from h2)
    exact a
  | _, _, .cons _ t, i + 1, x, y, h1, h2 => pair_at t (i := i) (by simpa using h1) (by simpa using h2)
section
variable {P : Program} {w : World} {K : PySem.W.Frag} {σ : L2.St} {H H' : Hp} {ta tb tc te tx tl td : TE} {D : Ends} {tz : TS}
/-- all(b(x) for x in xs) -/
theorem ev_allL {Pt l : Addr} {cm : List (Option Nat)} {own : List Nat} {xs : List Int} (b : Int → Bool) (h : Ev tl σ H (.ref l)) (hx : SqL K H l (xs.map L2.V.int)) (hn : xs.length ≤ 1000) (tab : H Pt = some (TabX Pt))
    (hw : ∀ x, wipe ((captS cm σ).set 0 (some x)) own = captS cm σ) (he : ∀ x ∈ xs, ∀ H1, Ex H H1 → Ev te ((captS cm σ).set 0 (some (.int x))) H1 (.bl (b x))) :
    Ev (tAllG (tGx Pt (iList K tl) (gName 0) tYes te cm own)) σ H (.bl (xs.all b)) := fun H1 e Q q =>
  h H1 e _ fun H3 e13 => by
    have e03 := e.trans e13
    have hxl : (xs.map L2.V.int).length = xs.length := List.length_map _
    refine ⟨l, rfl, ⟨_, ex_l e03 hx⟩, e03 Pt _ tab, fun i m zs H' => m + i = xs.length ∧ Ex H3 H' ∧ zs = (xs.take i).map fun x => L2.V.bl (b x), ⟨xs.length, by omega, Ex.refl _, rfl⟩, ?_⟩
    rintro i m zs H' ⟨hm, e4, rfl⟩
    have e04 := e03.trans e4
    by_cases hi : i < xs.length
    · right
      refine ⟨⟨_, _, ex_l e04 hx, int_at hi⟩, fun zs H5 => (m - 1) + (i + 1) = xs.length ∧ Ex H3 H5 ∧ zs = (xs.take (i + 1)).map fun x => L2.V.bl (b x), fun zs H5 q => ⟨m - 1, by omega, q⟩, ?_⟩
      rintro v H5 ⟨rfl, hx1⟩
      have ex1 := (Option.some.inj ((int_at hi).symm.trans (hx1 _ (ex_l e04 hx)))).symm
      subst ex1
      have hxi : xs.getD i 0 = xs[i] := by rw [List.getD_eq_getElem?_getD, List.getElem?_eq_getElem hi] <;> rfl
      have hmem : xs.getD i 0 ∈ xs := by rw [hxi]; exact List.getElem_mem hi
      have htk : xs.take (i + 1) = xs.take i ++ [xs.getD i 0] := by rw [hxi]; exact (List.take_append_getElem hi).symm
      refine ⟨hw _, tt_yes ?_⟩
      refine he _ hmem _ e04 _ (Ex.refl _) _ fun H7 e7 => ?_
      refine ⟨sz_lt (by rw [List.length_map, List.length_take]; omega), ⟨_, rfl, fun z => ?_⟩, by omega, e4.trans e7, ?_⟩
      · have : xs.all b = false := List.all_eq_false.mpr ⟨_, hmem, by rw [z]; exact Bool.false_ne_true⟩
        rw [← this]
        exact q _ ((e13.trans e4).trans e7)
      · rw [htk, List.map_append]
        rfl
    · left
      have hin : i = xs.length := by omega
      subst hin
      refine ⟨⟨_, ex_l e04 hx, by rw [hxl]; exact Nat.le_refl _⟩, fun hno => ?_⟩
      rw [List.take_length] at hno
      have hr : xs.all b = true := by
        rw [List.all_eq_true]
        intro x hx2
        cases hb : b x with
        | true => rfl
        | false => exact absurd rfl (hno _ (List.mem_map.mpr ⟨x, hx2, by rw [hb]⟩))
      rw [← hr]
      exact q H' (e13.trans e4)
/-- all(b(k) for k in d) -/
theorem ev_allX {Pt d : Addr} {cm : List (Option Nat)} {own : List Nat} {kvs : List (List Key × L2.V)} (b : List Key → Bool) (h : Ev td σ H (.ref d)) (hd : DAt P w K H d kvs) (hn : kvs.length ≤ 90000) (tab : H Pt = some (TabX Pt))
    (hw : ∀ x, wipe ((captS cm σ).set 0 (some x)) own = captS cm σ) (he : ∀ kv ∈ kvs, ∀ q H1, Ex H H1 → SqT K H1 q (kv.1.map kV) → Ev te ((captS cm σ).set 0 (some (.ref q))) H1 (.bl (b kv.1))) :
    Ev (tAllG (tGx Pt (iDX P w td) (gName 0) tYes te cm own)) σ H (.bl (kvs.all fun kv => b kv.1)) := fun H1 e Q q =>
  h H1 e _ fun H3 e13 => by
    have e03 := e.trans e13
    obtain ⟨xs, o, ho, hk⟩ := hd
    have hl : xs.length = kvs.length := (Paired.length hk).symm
    have hks := isKeysX_of hk
    refine ⟨d, xs, o, rfl, e03 _ _ ho, e03 Pt _ tab, fun i m zs H' => m + i = kvs.length ∧ Ex H3 H' ∧ zs = (kvs.take i).map fun kv => L2.V.bl (b kv.1), ⟨kvs.length, by omega, Ex.refl _, rfl⟩, ?_⟩
    rintro i m zs H' ⟨hm, e4, rfl⟩
    have e04 := e03.trans e4
    by_cases hi : i < kvs.length
    · right
      refine ⟨⟨e04 _ _ ho, by rw [List.length_map]; omega⟩, fun zs H5 => (m - 1) + (i + 1) = kvs.length ∧ Ex H3 H5 ∧ zs = (kvs.take (i + 1)).map fun kv => L2.V.bl (b kv.1), fun zs H5 q => ⟨m - 1, by omega, q⟩, ?_⟩
      rintro v H5 ⟨rfl, c, hc, rfl⟩
      have hki : kvs[i]? = some kvs[i] := List.getElem?_eq_getElem hi
      have hmem : kvs[i] ∈ kvs := List.getElem_mem hi
      have hkc : SqT K H c (kvs[i].1.map kV) := pair_at hks hki hc
      have htk : kvs.take (i + 1) = kvs.take i ++ [kvs[i]] := (List.take_append_getElem hi).symm
      refine ⟨hw _, tt_yes ?_⟩
      refine he _ hmem c H5 e04 (ex_t e04 hkc) _ (Ex.refl _) _ fun H7 e7 => ?_
      refine ⟨sz_lt (by rw [List.length_map, List.length_take]; omega), ⟨_, rfl, fun z => ?_⟩, by omega, e4.trans e7, ?_⟩
      · have : (kvs.all fun kv => b kv.1) = false := List.all_eq_false.mpr ⟨_, hmem, by rw [z]; exact Bool.false_ne_true⟩
        rw [← this]
        exact q _ ((e13.trans e4).trans e7)
      · rw [htk, List.map_append]
        rfl
    · left
      have hin : i = kvs.length := by omega
      subst hin
      refine ⟨⟨e04 _ _ ho, by rw [List.length_map]; omega⟩, fun hno => ?_⟩
      rw [List.take_length] at hno
      have hr : (kvs.all fun kv => b kv.1) = true := by
        rw [List.all_eq_true]
        intro x hx2
        cases hb : b x.1 with
        | true => rfl
        | false => exact absurd rfl (hno _ (List.mem_map.mpr ⟨x, hx2, by rw [hb]⟩))
      rw [← hr]
      exact q H' (e13.trans e4)
end
end KC
set_option Elab.async false
set_option linter.all false
set_option maxRecDepth 100000
set_option maxHeartbeats 4000000
/-! Own exceptions whose __init__ reads self.__class__.__name__: the two attributes. -/
namespace KX
open PySem PySem.W PySem.Calls PyProof.Rows Builtin Builtin.ObjectAttr Builtin.Getset_descriptor
section
variable {prog : Program} {w : World} {A : Around} {E : Value → Shared → Prop} {s : Shared} {K : Frag} {R : Result → Shared → Prop} {C : Addr}
theorem nam_args (d tp : Value) (C : Addr) : descrGetArgs ⟨[d, .ref C, tp], []⟩ = pure (d, some (.ref C), given tp) := by first | rfl | kernel_rfl
/-- the getter of a class's name, where the name is kept -/
theorem nam_get {tp v : Value} {o : Obj} (X : K.In s.heap) (hk : K.lookup C = some o) (hs : o.slots[2]? = some (some v)) (tC : typeIn K (.ref C) = some (.type "type")) (h : R (.ok (.ret v)) s) :
    codeAny (model prog w) A (.call (.builtin "getset_descriptor.__get__") ⟨[.builtin "type.__name__", .ref C, tp], []⟩) R s := by
  obtain ⟨hh, g, dr, t, os⟩ := s
  have T0 : Looks (model prog w) hh (typeOf (.ref C)) (.type "type") := looks_typeIn X tC
  have T1 : Looks (model prog w) hh (isSubtype (.type "type") (.type "type")) true := Looks.of_pure (by rw [isSubtype_type] <;> kernel_rfl)
  refine codeAny_call_builtin KF.slot_gs.plain KF.entry_gs (KF.slot_gs.check _ _ _ _ _ _ _ _ ktyn_type (KF.args_gs _ _ _) ?_)
  unfold Builtin.«getset_descriptor.__get__» descrGet
  rw [nam_args]
  refine wpAny_bind (wpAny_pure ?_)
  unfold descrGetter descrCheckInstance descrNameAndClass isInstance
  simp only [ktyn_owner]
  repeat lk
  refine ⟨Code.quiet_builtin _ (by decide +kernel), codeAny_builtin ktyn_entry ?_⟩
  unfold Builtin.«type.__name__»
  dsimp only
  unfold keptObject slotAt
  dsimp only
  have ho := X _ _ hk
  refine wpAny_bind (wpAny_bind (wpAny_loadPart ho (wpAny_pure ?_)))
  rw [hs]
  first
    | exact wpAny_bind (wpAny_pure (wpAny_pure h))
    | exact wpAny_pure (wpAny_pure h)
    | exact wpAny_bind (wpAny_bind (wpAny_pure h))
    | (show wpAny _ _ (ret v >>= _) _ _ _; exact wpAny_bind (wpAny_pure (wpAny_pure h)))
/-- e.__class__, e an exception of an own class -/
theorem exc_cls {x : Addr} {ox : Obj} {od : Option Obj} {expr : Bool} {gt : Option Value} {Q : Value → Shared → Prop} (X : K.In s.heap) (I : InstAt s.heap x ox C od) (g1 : findIn K (.ref C) "__getattribute__" = some (some (.builtin "BaseException.__getattribute__")))
    (g2 : findIn K (.ref C) "__getattr__" = some gt) (g3 : subIn K (.ref C) (.type "BaseException") = some true) (g4 : findObj K C od "__class__" = some (.bind (.builtin "getset_descriptor.__get__") (.builtin "object.__class__"))) (g5 : mroIn K C (.type "object") = some true)
    (q : Q (.ref C) { s with toks := s.toks + 1 }) : wpAny (model prog w) A (getAttr (.ref x) "__class__" expr) Q E s := by
  obtain ⟨hh, gg, dd, tt, oo⟩ := s
  have a0 := I.type (M := model prog w)
  have a3 := looks_find (M := model prog w) X I g4
  have sub : Looks (model prog w) hh (isInstance (.ref x) (.type "BaseException")) true := a0.andThen (looks_subIn X g3)
  have nb : (Value.builtin "BaseException.__getattribute__" == Value.builtin "object.__getattribute__") = false := by decide +kernel
  have n1 : (onTheHeap (Value.ref C) && Value.builtin "BaseException.__getattribute__" == Value.builtin "object.__getattribute__") = false := (congrArg (onTheHeap (Value.ref C) && ·) nb).trans (Bool.and_false _)
  have n0 : (expr && onTheHeap (Value.builtin "BaseException.__getattribute__")) = false := by cases expr <;> rfl
  unfold getAttr getAttrBy
  refine wpAny_bind (wpAny_mkText (wpAny_holding (wpAny_bind (a0.at (wpAny_bind ((looks_findIn X g1).at ?_)))))); show wpAny _ _ (if (onTheHeap (Value.ref C) && Value.builtin "BaseException.__getattribute__" == Value.builtin "object.__getattribute__") = true then _ else _) _ _ _
  rw [n1, if_neg Bool.false_ne_true]; unfold getAttrByItsOwn hookBefore
  refine wpAny_bind ?_; rw [if_pos (show onTheHeap (Value.ref C) = true from rfl)]
  refine (looks_findIn X g2).at (wpAny_bind (wpAny_attempt (wpAny_holding ?_))); unfold callGetattribute
  rw [n0, if_neg Bool.false_ne_true]; unfold boundAndCalled
  rw [PySem.F.excAttr_ValueError.ga.bind (.ref x)]; refine wpAny_bind (wpAny_pure ?_); show wpAny _ _ (call (.builtin "BaseException.__getattribute__") [.ref x, .str "__class__" tt]) _ _ _
  refine wpAny_call (codeAny_call_builtin PySem.F.excAttr_ValueError.ga.plain PySem.F.entry_bexc_ga (@PySem.W.check_slot (model prog w) _ _ ⟨hh, gg, dd, tt + 1, oo⟩ "BaseException.__getattribute__" "BaseException" "__getattribute__" (.ref x) [.str "__class__" tt] [] _ (by decide +kernel) (by decide +kernel) sub (PySem.F.args_bexc_ga (.ref x) (.str "__class__" tt)) ?_))
  unfold Builtin.«object.__getattribute__»; refine wpAny_bind (wpAny_of_eq (a := ((Value.ref x : Value), [Value.str "__class__" tt])) (by first | rfl | (simp only [slotArgs]; rfl)) (wpAny_bind (wpAny_pure (wpAny_bind (a0.at (wpAny_bind (a3.at ?_)))))))
  refine wpAny_bind (wpAny_holding (wpAny_call (class_get (s := ⟨hh, gg, dd, tt + 1, oo⟩) (ox := ox) (od := od) X I g5 ?_))); refine wpAny_pure ?_
  show wpAny _ _ (handedOut (.ref C)) _ _ _
  rw [handedOut_of (show handedIn (.ref C) = true from rfl)]
  first
    | exact wpAny_pure q
    | exact wpAny_pure (wpAny_pure q)
end
open L2
/-- what the written part says of a class's name -/
structure NamK (K : PySem.W.Frag) (C : Addr) (nm : Str) : Prop where
  ob : ∃ (o : Obj) (tk : Tok), K.lookup C = some o ∧ o.slots[2]? = some (some (.str nm tk))
  ty : PySem.W.typeIn K (.ref C) = some (.type "type")
  rd : PySem.W.readsIn K C (.type "type") = true
  fd : PySem.W.findCls K (.ref C) (.type "type") "__name__" = some (.get (.builtin "getset_descriptor.__get__") (.builtin "type.__name__") (.ref C) (.type "type"))
def tECls (K : PySem.W.Frag) (te : TE) : TE := fun σ H Q => te σ H fun x H1 => ∃ (a C dx : Addr) (fs : List (Str × V)), x = .ref a ∧ ExcC K C ∧ H1 a = some (exo a C (some dx)) ∧ H1 dx = some (exd dx fs) ∧ Q (.ref C) H1
def tCNam (K : PySem.W.Frag) (te : TE) : TE := fun σ H Q => te σ H fun x H1 => ∃ (C : Addr) (nm : Str), x = .ref C ∧ NamK K C nm ∧ Q (.str nm) H1
/-- BaseException.__init__ over an exception that has its dict -/
theorem init_dict {prog : Program} {w : World} {A : Around} {R : Result → Shared → Prop} {h : Heap} {g : Array GenState} {d : Drawn} {t : Nat} {os : OsState} {nm q : Str} {C N : Addr} {bs bm bmB : List Value} {hdct : Bool} {sn : List Str} {sub : List Value} {ab : Bool} {col : Option Bool} {dd : Option Addr} {k0 k1 k2 k3 k5 : Option Value} {B newId initId : String}
    (F : ExcBaseFacts B newId initId bmB) (hT : ∀ X : String, bm.contains (.type X) = bmB.contains (.type X)) {e t0 : Addr} {od : Option Addr} {rest : List Value} (hC : h.get? C = some (excClassObj nm q C N bs bm hdct sn sub ab col dd k0 k1 k2 k3 k5 newId))
    (he : h.get? e = some ({ cls := .ref C, dict := od, data := .fields #[.ref t0, .none, .none, .none, .bool false, .none] } : Obj)) (hr : rest.length ≤ sizeLine)
    (hq : ∀ h' (t1 : Addr), (∀ b o, b ≠ e → h.get? b = some o → h'.get? b = some o) → h'.get? e = some ({ cls := .ref C, dict := od, data := .fields #[.ref t1, .none, .none, .none, .bool false, .none] } : Obj) → R (.ok (.ret .none)) ⟨h', g, d, t, os⟩) :
    codeAny (model prog w) A (.call (.builtin initId) ⟨.ref e :: rest, []⟩) R ⟨h, g, d, t, os⟩ := by
  refine codeAny_call_builtin F.init.plain F.initEntry (PySem.HandSPX.check_init_own F hT hC he rfl ?_)
  wp_walk
  refine hq _ h.objs.size (fun b o hb ho => ?_) ?_
  · rw [Heap.get?_update_other _ _ (fun z => hb z.symm), Heap.get?_push_of_some _ ho]
  · rw [Heap.get?_update_self _ (Heap.get?_push_of_some _ he) rfl]; rfl
section
variable {X : Cx} {pins : List (Addr × Obj)} {σ : L2.St} {H : Hp} {s : Shared} {A : Around} {E : Value → Shared → Prop} {C a : Addr}
theorem init_okD {us : List Value} {od : Option Addr} {Q : Value → Shared → Prop} (T : OexC X.K C) (I : Inv X pins σ H s) (e : H a = some (exo a C od)) (hl : us.length ≤ sizeLine) (h : ∀ s', Inv X pins σ H s' → Q .none s') :
    wpAny (model X.prog X.w) A (call (.builtin "ValueError.__init__") (.ref a :: us)) Q E s := by
  obtain ⟨nm, q, N, bs, bm, sn, sub, ab, col, dd, k0, k1, k2, k3, k5, hC, hbm⟩ := T.cls
  obtain ⟨t1, ho⟩ := exo_at I.hok e
  obtain ⟨hp, g, d, t, os⟩ := s
  refine wpAny_call (init_dict F.excBase_ValueError (fun Y => PySem.HandSPX.refsVE_contains Y bm hbm) (I.kIn _ _ hC) ho hl fun h' t2 k hx => ?_)
  have J := I.write (t' := t) (x := a) (e := a) (o := exo a C od) (by rw [e]; exact True.intro) (.inl rfl) k ⟨_, hx⟩ (exo_ok hx)
  have eu : upd H a (exo a C od) = H := GX.upd_id e
  rw [eu] at J
  exact h _ J
end
section
variable {X : Cx} {e : Expr} {te : TE} {pos : Pos}
/-- ValueError.__init__(self, ..), self with or without its dict -/
def tVeD (K : PySem.W.Frag) (ta : TA) : TE := fun σ H Q => ta σ H fun vs H1 => ∃ (a C : Addr) (od : Option Addr) (ws : List V), vs = .ref a :: ws ∧ ws.length ≤ 1000 ∧ OexC K C ∧ H1 a = some (exo a C od) ∧ Q .non H1
theorem pe_veD {es : List Expr} {ta : TA} {p1 p2 : Pos} {pl : Sem Bool} (hg : Gl X "ValueError") (hm : X.mg "ValueError" = none) (vV : PySem.W.findCls X.K (.type "ValueError") (.type "type") "__init__" = some (.val (.builtin "ValueError.__init__"))) (ha : PA X (e :: es) ta)
    (hc : eval (.Call (.Attribute (.Name "ValueError" p1) "__init__" p2) (e :: es) [] pos) X.env = (eval (.Name "ValueError" p1) X.env >>= fun ov => standAt p2.atName >>= fun _ => holding [ov] (getMethod ov "__init__" pl) >>= fun r => callWith pos r.1 r.2 (backTo pos (starEach (e :: es) X.env)) (backToKw pos (keywordEach [] X.env))) := by rfl)
    (he : starEach (e :: es) X.env = (false, eval e X.env) :: starEach es X.env := by rfl) (hpl : (backTo pos (starEach es X.env)).any (·.1) = false := by rfl) :
    PE X (.Call (.Attribute (.Name "ValueError" p1) "__init__" p2) (e :: es) [] pos) (tVeD X.K ta) := by
  refine ⟨fun pins s σ H Q I h => ?_⟩
  refine PySem.W.methodCall_KW (ld_blt I hg hm PyProof.Rows.Boot.«ValueError» ?_ (by decide) (by decide)) hc
  obtain ⟨m, fr⟩ := I.fr
  refine PySem.W.method_type fr I.ok.mod.kin PySem.OEX.typ_VE (by decide +kernel) vV (by decide +kernel) ?_
  show wpAny _ _ (callWith pos (Value.builtin "ValueError.__init__") [] (backTo pos (starEach (e :: es) X.env)) []) _ _ _
  refine PyProof.Rows.callWith_method1 (thn (ha.run pos pins _ σ H _ (I.tok _) h) fun us s1 ⟨vs, H1, I1, r1, a, C, od, ws, ev, hl, T, ea, q⟩ => ?_) he hpl
  subst ev
  cases r1 with
  | @cons _ u0 _ ur ra rr =>
    obtain rfl : u0 = Value.ref a := ra
    exact init_okD T I1 ea (by rw [← Paired.length rr, sizeLine_eq]; omega) fun s' J => ⟨.non, H1, J, rfl, q⟩
end
section
variable {X : Cx} {e : Expr} {te : TE} {pos : Pos}
theorem pe_cnam (he : PE X e te) (hb : attributeBase e "__name__" X.env (eval e X.env) = eval e X.env := by rfl) : PE X (.Attribute e "__name__" pos) (tCNam X.K te) := by
  refine ⟨fun pins s σ H Q I h => ?_⟩
  refine attr_of hb (thn (he.run pins s σ H _ I h) fun u s1 ⟨x, H1, I1, rx, C, nm, ex, N, q⟩ => ?_)
  subst ex
  obtain rfl : u = Value.ref C := rx
  obtain ⟨o, tk, k1, k2⟩ := N.ob
  refine PySem.W.cls_bind I1.kIn N.rd N.fd ?_
  have I2 := I1.tok (s1.toks + 1)
  refine wpAny_call (nam_get (s := { s1 with toks := s1.toks + 1 }) I2.kIn k1 k2 N.ty ?_)
  exact PySem.W.handed_on rfl ⟨.str nm, H1, I2, ⟨tk, rfl⟩, q⟩
theorem pe_ecls (he : PE X e te) (hb : attributeBase e "__class__" X.env (eval e X.env) = eval e X.env := by rfl) : PE X (.Attribute e "__class__" pos) (tECls X.K te) := by
  refine ⟨fun pins s σ H Q I h => ?_⟩
  refine attr_of hb (thn (he.run pins s σ H _ I h) fun u s1 ⟨x, H1, I1, rx, a, C, dx, fs, ex, T, ea, ed, q⟩ => ?_)
  subst ex
  obtain rfl : u = Value.ref a := rx
  obtain ⟨t1, ho⟩ := exo_at I1.hok ea
  obtain ⟨mA, hns, rel⟩ := exd_at I1.hok ed
  obtain ⟨oD, _, _, hoD, _, _⟩ := hns.count (within_of rel)
  have J : PySem.W.InstAt s1.heap a { cls := .ref C, dict := some dx, data := .fields #[.ref t1, .none, .none, .none, .bool false, .none] } C (some oD) := ⟨ho, rfl, rfl, hoD⟩
  obtain ⟨cd, hc, _⟩ := PySem.W.any_some T.hd
  exact exc_cls I1.kIn J T.hg T.hk T.hs (PySem.W.findObj_dataE (by rw [hc] <;> rfl) T.ha T.hn T.ht) T.hm ⟨.ref C, H1, I1.tok _, rfl, q⟩
end
end KX
set_option Elab.async false
set_option linter.all false
set_option maxRecDepth 100000
set_option maxHeartbeats 4000000
/-! try with several 'except C as e' that take all that comes. -/
namespace KX
open PySem PySem.Spec PyProof.Rows L2
def endsAs (i : Nat) (D : Ends) : Ends := { nx := fun σ H => D.nx (σ.set i none) H, rt := D.rt, bk := fun σ H => D.bk (σ.set i none) H, ct := fun σ H => D.ct (σ.set i none) H }
abbrev Cl := Value × Nat × (Addr → Value → Option Addr → TS)
def wAsAll (K : PySem.W.Frag) (D : Ends) : List Cl → WX
  | [] => fun _ _ _ _ => False
  | (c, i, ts) :: r => fun cls d σ H => ∃ b, PySem.W.exmOne K cls c = some b ∧ (b = true → ∀ a, H a = none → ts a cls d (endsAs i D) (σ.set i (some (.ref a))) H) ∧ (b = false → wAsAll K D r cls d σ H)
inductive ClOk (X : Cx) : List ExceptHandler → List Cl → Prop
  | nil {hs : List ExceptHandler} : ClOk X hs []
  | cons {x n : Str} {c : Value} {i : Nat} {ts : Addr → Value → Option Addr → TS} {b₀ : Stmt} {su : List Stmt} {np p : Pos} {hs : List ExceptHandler} {l : List Cl} (hc : Names X x c) (hi : X.N[i]? = some n) (hn : X.env.kindOf n = some .local)
      (hb : ∀ (a : Addr) (oe : Obj) (cls : Value) (d : Option Addr) (pn : List (Addr × Obj)), Zc cls d oe → (∃ vs, oe.data = .fields vs) → PSs (X.suite a ((a, oe) :: pn)) (b₀ :: su) (ts a cls d)) (r : ClOk X hs l) : ClOk X (.ExceptHandler (some (.Name x np)) (some n) (b₀ :: su) p :: hs) ((c, i, ts) :: l)
section
variable {X : Cx} {body : List Stmt} {h₀ : ExceptHandler} {hds : List ExceptHandler} {l : List Cl} {pos : Pos} {tb : WX → TS}
theorem ps_try_all (hst : X.stack = X.env :: X.outer) (hfm : X.env.frame = some X.env.locals) (hN : X.N.Nodup) (hb : ∀ (W : WX) (pn : List (Addr × Obj)) (xe : Value → Shared → Prop), Takes (X.tr pn xe) W → PassesOwn (model X.prog X.w) X.A X.env xe → PSs (X.tr pn xe) body (tb W)) (hh : ClOk X (h₀ :: hds) l) :
    PS X (.Try body (h₀ :: hds) [] [] pos) (fun D σ H => tb (wAsAll X.K D l) D σ H) := by
  refine ⟨fun pins s σ H D I h => wpAny_Try_except ?_⟩
  have okX := I.ok
  have frX : X.A.frames = some (X.env :: X.outer) := okX.frames.trans (congrArg some hst)
  refine wpAny_mono ((hb (wAsAll X.K D l) (X.pn ++ pins) (fun e t₁ => wpAny (model X.prog X.w) X.A (noteFrame e X.env) (fun _ t₂ => wpAny (model X.prog X.w) X.A (setFlight e none) (fun _ t₃ => wpAny (model X.prog X.w) X.A (handleBy e X.env (h₀ :: hds)) (SP X pins D) X.xe t₃) X.xe t₂) X.xe t₁) (fun u t xx => ?_) PassesOwn.looking).run [] s σ H D (I.toTry _) h) (fun f t ht => ?_) fun _ _ z => z
  · obtain ⟨a, B, sI, pins1, σ1, H1, cls, d, rfl, J0, nb, up, sky, na, os, ag, w⟩ := xx
    have J : Inv X pins σ1 H1 sI := J0.ofTry okX
    refine Sky.land Zc.steady frX hfm (by rw [← hst] <;> exact sky) fun h3 fl3 up3 => ?_
    have J3 : Inv X pins σ1 H1 { t with heap := h3 } := J.landed nb fl3.1 (up.trans up3) os ag
    obtain ⟨oe, vs, he, hz, hd⟩ := fl3.there
    have nfr : a ∉ frs (X.env :: X.outer) := fun hm => by
      obtain ⟨_, o, eo, no⟩ := fl3.2.2.1.mem hm
      exact no vs ((congrArg Obj.data (Option.some.inj (eo.symm.trans he))).trans hd)
    have nL : a ≠ X.env.locals := fun z => nfr (List.mem_filterMap.mpr ⟨X.env, List.mem_cons_self, hfm.trans (congrArg some z.symm)⟩)
    have nF : a ∉ X.fs := fun hm => let ⟨e, m, q⟩ := List.mem_filterMap.mp hm; nfr (List.mem_filterMap.mpr ⟨e, List.mem_cons_of_mem _ m, q⟩)
    have S3 := J3.suite he hd na nL nF
    have LT : PySem.W.Looks (model X.prog X.w) h3 (typeOf (.ref a)) cls := fun A Q E s k q => wpAny_typeOf_ref (k _ _ he) (hz.1 ▸ q)
    have go : ∀ {hs : List ExceptHandler} {l1 : List Cl}, ClOk X hs l1 → wAsAll X.K D l1 cls d σ1 H1 → wpAny (model X.prog X.w) X.A (handleBy (.ref a) X.env hs) (SP X pins D) X.xe { t with heap := h3 } := by
      intro hs l1 hk
      induction hk with
      | nil => exact fun z => False.elim z
      | @cons x n c i ts b₀ su np p hs2 l2 hc hi hn hsu r ih =>
        rintro ⟨b, hb1, yes, no⟩
        refine wpAny_handleBy_cons (codeAny_handlers_test ?_) (fun q => nomatch q)
        have nm : ∀ {Q : Value → Shared → Prop} {E : Value → Shared → Prop}, Q c { t with heap := h3 } → wpAny (model X.prog X.w) (X.A.mark (some (.ref a))) (eval (.Name x np) X.env) Q E { t with heap := h3 } := fun {Q E} q => match hc with
          | ⟨hg, hdb, .inl hm⟩ => ld_glob (X := X.suite a ((a, oe) :: (X.pn ++ pins))) S3 hg hm q hdb
          | ⟨hg, hdb, .inr ⟨hm, hv, hnn⟩⟩ => ld_blt (X := X.suite a ((a, oe) :: (X.pn ++ pins))) S3 hg hm hv q hnn hdb
        refine nm ((PySem.W.exm_one (M := model X.prog X.w) J3.kIn LT hb1).here ?_)
        cases b with
        | false =>
          show wpAny _ X.A (handleBy (.ref a) X.env hs2) _ _ _
          exact ih (no rfl)
        | true =>
          refine codeAny_handlers_suite_as (HandSPX.lands_againZ fl3 fun h4 fl4 up4 => ?_)
          have J4 : Inv X pins σ1 H1 { t with heap := h4 } := J.landed nb fl4.1 ((up.trans up3).trans up4) os ag
          obtain ⟨oe4, vs4, he4, hz4, hd4⟩ := fl4.there
          refine store_ok (X := X.suite a ((a, oe4) :: (X.pn ++ pins))) (v := .ref a) (J4.suite he4 hd4 na nL nF) hN hi (.inl hn) rfl (fun s5 S5 => ?_) (.inr hn)
          refine wpAny_mono ((hsu a oe4 cls d (X.pn ++ pins) hz4 ⟨_, hd4⟩).run [] s5 _ H1 _ S5 (yes rfl a na)) (fun f s6 hsp => ?_) fun _ _ z => z.elim
          have fin : ∀ {σ6 : L2.St} {H6 : Hp} {Q : Shared → Prop}, Inv (X.suite a ((a, oe4) :: (X.pn ++ pins))) [] σ6 H6 s6 → (∀ s7, Inv X pins (σ6.set i none) H6 s7 → Q s7) → wpAny (model X.prog X.w) X.A (do bindName X.env n .none; unbindBehindTheSuite X.env n p) (fun _ s7 => Q s7) X.xe s6 := fun S6 hq => gone_ok (S6.unsuite okX) hN hi hn hq
          match f, hsp with
          | .next, ⟨_, _, S6, q6⟩ => exact fin S6 fun _ J7 => ⟨_, _, J7, q6⟩
          | .brk, ⟨_, _, S6, q6⟩ => exact fin S6 fun _ J7 => ⟨_, _, J7, q6⟩
          | .cont, ⟨_, _, S6, q6⟩ => exact fin S6 fun _ J7 => ⟨_, _, J7, q6⟩
          | .ret u, ⟨_, _, _, S6, r6, q6⟩ => exact fin S6 fun _ J7 => ⟨_, _, _, J7, r6, q6⟩
    exact go hh w
  · match f, ht with
    | .next, ⟨_, _, J, q⟩ => exact wpAny_execs_nil ⟨_, _, J.ofTry okX, q⟩
    | .brk, ⟨_, _, J, q⟩ => exact ⟨_, _, J.ofTry okX, q⟩
    | .cont, ⟨_, _, J, q⟩ => exact ⟨_, _, J.ofTry okX, q⟩
    | .ret u, ⟨_, _, _, J, r, q⟩ => exact ⟨_, _, _, J.ofTry okX, r, q⟩
end
end KX
set_option Elab.async false
set_option linter.all false
set_option maxRecDepth 100000
set_option maxHeartbeats 4000000
/-! Own error classes: what a law needs of them. -/
namespace KX
open PySem PySem.Spec PyProof.Rows L2 GX KC Evl
/-- what the written part says of an own error class and its fields -/
structure ErrK (K : PySem.W.Frag) (C : Addr) (nm : Str) : Prop where
  oc : OexC K C
  ec : L2.ExcC K C
  nk : NamK K C nm
  f1 : PySem.W.findIn K (.ref C) "place" = some none
  f2 : PySem.W.findIn K (.ref C) "name" = some none
def flds (nm : Str) (i : Int) : List (Str × V) := [("name", .str nm), ("place", .int i)]
def spInit (K : PySem.W.Frag) : Sp := fun vs H Q _ => ∃ (a C : Addr) (i : Int) (nm : Str), vs = [.ref a, .int i] ∧ H a = some (exo a C none) ∧ ErrK K C nm ∧ i.natAbs < 2 ^ 100 ∧
  ∀ dx H2, H dx = none → dx ≠ a → H2 a = some (exo a C (some dx)) → H2 dx = some (exd dx (flds nm i)) → (∀ b, b ≠ a → b ≠ dx → H2 b = H b) → Q .non H2
theorem log_bd {n : Nat} (h : n < 2 ^ 100) : n.log2 < 1920 := by
  by_cases z : n = 0
  · subst z; decide
  · have := (Nat.log2_lt z).mpr h
    omega
theorem ofString_len (s : String) : (Str.ofString s).length = s.length := by
  rw [Str.ofString_eq_toList]
  show (s.toList.map Char.toNat).toArray.size = _
  rw [List.size_toArray, List.length_map, String.length_toList]
theorem text_fits {i : Int} (h : i.natAbs < 2 ^ 100) : (Str.empty ++ Str.ofString "at place " ++ Str.ofString (toString i)).length ≤ sizeLine := by
  have h1 := int_text_length_le (a := i) (k := 1920) (by decide) (log_bd h)
  have h2 := ofString_len (toString i)
  show (((#[] : Array Nat) ++ (Str.ofString "at place ").cps) ++ (Str.ofString (toString i)).cps).size ≤ _
  rw [Array.size_append, Array.size_append]
  have h3 : (Str.ofString (toString i)).cps.size = (toString i).length := h2
  have h4 : (Str.ofString "at place ").cps.size = 9 := by decide
  have h5 : 10000 ≤ sizeLine := by decide
  rw [h3, h4]
  show 0 + 9 + _ ≤ _
  omega
section
variable {P : Program} {w : World} {K : PySem.W.Frag} {mg : Str → Option Value} {base : Heap}
/-- an own error class of the text, its __init__ -/
structure ErrG (P : Program) (w : World) (K : PySem.W.Frag) (mg : Str → Option Value) (base : Heap) (nm : Str) (C fI : Addr) (fd : FuncData) : Prop where
  er : ErrK K C nm
  iC : PySem.W.findIn K (.ref C) "__init__" = some (some (.ref fI))
  tI : PySem.W.typeIn K (.ref fI) = some (.type "function")
  g : mg nm = some (.ref C)
  ok : FnOk P w K mg base CX0 1 fI fd ["self", "place"] (spInit K)
  bd : Binds K fd ["self", "place"] []
def ErrOut (C : Addr) (nm : Str) (i : Int) (H : Hp) (E : XK) : Prop := ∀ (d : Addr) H2, H d = none → Ex H H2 → H2 d = some (.xd (flds nm i)) → E (.ref C) (some d) H2
theorem s_mk {σ : L2.St} {H : Hp} {te : TE} {C : Addr} {nm : Str} {i : Int} {W : XK} (T : ErrK K C nm) (h : Ev te σ H (.int i)) (hi : i.natAbs < 2 ^ 100) (k : ErrOut C nm i H W) : tMkO C (spInit K) [] (tCons te tNil) σ H W :=
  h H (Ex.refl H) _ fun H1 e1 => ⟨by show 1 ≤ 1000; decide, fun a ha => ⟨a, C, i, nm, rfl, upd_same, T, hi, fun dx H2 hdx hne h1 h2 hr => by
    have hd1 : H1 dx = none := by rw [upd_ne hne] at hdx; exact hdx
    refine ⟨rfl, dx, _, h1, h2, hd1, k dx _ (fresh_back e1 hd1) (fun x o hx => ?_) upd_same⟩
    have hx1 := e1 x o hx
    have n1 : x ≠ a := fun z => by rw [z, ha] at hx1; cases hx1
    have n2 : x ≠ dx := fun z => by rw [z, hd1] at hx1; cases hx1
    rw [upd_ne n2, del_ne n1, hr x n1 n2, upd_ne n1]
    exact hx1⟩⟩
structure CalX (P : Program) (w : World) (K : PySem.W.Frag) (mg : Str → Option Value) (base : Heap) (nm : Str) (k : Nat) (ps : List Str) (sp : Sp) : Prop where
  out : ∃ f fd, mg nm = some (.ref f) ∧ PySem.W.keepIn K (.ref f) = true ∧ Binds K fd ps [] ∧ FnOk P w K mg base (L2.CX P w) k f fd ps sp
theorem pe_callX {X : Cx} {nm : Str} {k : Nat} {ps : List Str} {sp : Sp} {E : XK} {p pos : Pos} {e : Expr} {es : List Expr} {t : TA} (C : CalX X.prog X.w X.K X.mg X.base nm k ps sp) (hr : Room k X.A) (hg : Gl X nm) (hx : Passes (L2.CX X.prog X.w) X E) (ha : PA X (e :: es) t)
    (hdb : (nm == ("__debug__" : Str)) = false := by decide) (he : starEach (e :: es) X.env = (false, eval e X.env) :: starEach es X.env := by rfl) (hpl : (backTo pos (starEach es X.env)).any (·.1) = false := by rfl) :
    PE X (.Call (.Name nm p) (e :: es) [] pos) (tCall sp [] E t) := by
  obtain ⟨f, fd, h1, h2, h3, h4⟩ := C.out
  exact pe_call h4 hr hg h1 h2 h3 .nil hx ha hdb he hpl
end
end KX
set_option Elab.async false
set_option linter.all false
set_option maxRecDepth 100000
set_option maxHeartbeats 4000000
/-! Pairs (a key, a symbol) in a list, sorted. -/
namespace KC
open PySem PySem.Spec PyProof.Rows L2 StX GX Evl
def PrG (key : Nat → Int) (H : Hp) (ys : List V) (o : List Nat) : Prop := ys.length = o.length ∧ ∀ (j s : Nat), o[j]? = some s → ∃ t, ys[j]? = some (.ref t) ∧ H t = some (.tup [.int (key s), .int (s : Int)])
section
variable {key : Nat → Int} {H H' : Hp} {ys zs : List V} {o : List Nat}
theorem PrG.nil : PrG key H [] [] := ⟨rfl, fun j s h => by simp at h⟩
theorem PrG.ext (e : Ex H H') (h : PrG key H ys o) : PrG key H' ys o := ⟨h.1, fun j s hj => by
  obtain ⟨t, h1, h2⟩ := h.2 j s hj
  exact ⟨t, h1, e t _ h2⟩⟩
theorem PrG.put {p : Addr} {us ws : List V} (hp : H p = some (.lst us)) (h : PrG key H ys o) : PrG key (upd H p (.lst ws)) ys o := ⟨h.1, fun j s hj => by
  obtain ⟨t, h1, h2⟩ := h.2 j s hj
  exact ⟨t, h1, by rw [upd_ne (fun z => by rw [z, hp] at h2; cases h2)]; exact h2⟩⟩
theorem PrG.add {t : Addr} {s : Nat} (h : PrG key H ys o) (ht : H t = some (.tup [.int (key s), .int (s : Int)])) : PrG key H (ys ++ [.ref t]) (o ++ [s]) := by
  refine ⟨by rw [List.length_append, List.length_append, h.1] <;> rfl, fun j u hj => ?_⟩
  by_cases e : j < o.length
  · rw [List.getElem?_append_left e] at hj
    obtain ⟨w, h1, h2⟩ := h.2 j u hj
    exact ⟨w, by rw [List.getElem?_append_left (by rw [h.1]; exact e)]; exact h1, h2⟩
  · rw [List.getElem?_append_right (by omega)] at hj
    have hj0 : j - o.length = 0 := by
      have := (List.getElem?_eq_some_iff.mp hj).1
      simp at this
      omega
    rw [hj0] at hj
    have hu : s = u := by simpa using hj
    subst hu
    exact ⟨t, by rw [List.getElem?_append_right (by rw [h.1]; omega), h.1, hj0]; rfl, ht⟩
def keyOf (H : Hp) : V → Int × Int
  | .ref t => match H t with
    | some (.tup [.int a, .int b]) => (a, b)
    | _ => (0, 0)
  | _ => (0, 0)
theorem keyOf_tup {t : Addr} {a b : Int} (h : H t = some (.tup [.int a, .int b])) : keyOf H (.ref t) = (a, b) := by
  show (match H t with | some (.tup [.int a, .int b]) => (a, b) | _ => ((0 : Int), (0 : Int))) = _
  rw [h]
def symOf (H : Hp) (z : V) : Nat := (keyOf H z).2.toNat
theorem PrG.mem (h : PrG key H ys o) {z : V} (hz : z ∈ ys) : ∃ s t, s ∈ o ∧ z = .ref t ∧ H t = some (.tup [.int (key s), .int (s : Int)]) ∧ symOf H z = s := by
  obtain ⟨j, hj⟩ := List.mem_iff_getElem?.mp hz
  have hjl : j < o.length := by rw [← h.1]; exact (List.getElem?_eq_some_iff.mp hj).1
  obtain ⟨t, h1, h2⟩ := h.2 j _ (List.getElem?_eq_getElem hjl)
  rw [hj] at h1
  have e := Option.some.inj h1
  subst e
  exact ⟨_, t, List.getElem_mem hjl, rfl, h2, by unfold symOf; rw [keyOf_tup h2]; simp⟩
theorem PrG.syms (h : PrG key H ys o) : ys.map (symOf H) = o := by
  refine List.ext_getElem? fun j => ?_
  rw [List.getElem?_map]
  by_cases hj : j < o.length
  · obtain ⟨t, h1, h2⟩ := h.2 j _ (List.getElem?_eq_getElem hj)
    rw [h1, List.getElem?_eq_getElem hj]
    show some (symOf H (.ref t)) = _
    unfold symOf
    rw [keyOf_tup h2]
    simp
  · rw [List.getElem?_eq_none (by rw [h.1]; omega), List.getElem?_eq_none (by omega)]
    rfl
theorem PrG.sorted (h : PrG key H ys o) (hp : zs.Perm ys) (hs : SrtO.Srtd (ltP (keyOf H)) zs) (hn : o.Nodup) :
    PrG key H zs (zs.map (symOf H)) ∧ (zs.map (symOf H)).Perm o ∧ (zs.map (symOf H)).Pairwise fun a b => key a < key b ∨ (key a = key b ∧ a < b) := by
  have hperm : (zs.map (symOf H)).Perm o := by
    have := hp.map (symOf H)
    rwa [h.syms] at this
  refine ⟨⟨(List.length_map _).symm, fun j s hj => ?_⟩, hperm, ?_⟩
  · rw [List.getElem?_map] at hj
    cases hz : zs[j]? with
    | none => rw [hz] at hj; cases hj
    | some z =>
      rw [hz] at hj
      obtain ⟨s1, t, _, rfl, ht, es⟩ := h.mem (hp.mem_iff.mp (List.mem_of_getElem? hz))
      have e2 : s1 = s := by rw [← es]; exact Option.some.inj hj
      subst e2
      exact ⟨t, rfl, ht⟩
  · have hnd : (zs.map (symOf H)).Nodup := hperm.nodup_iff.mpr hn
    have hnd2 : zs.Pairwise fun a b => symOf H a ≠ symOf H b := List.pairwise_map.mp hnd
    refine List.pairwise_map.mpr ?_
    refine List.Pairwise.imp_of_mem (fun {a b} ha hb hab => ?_) (hs.and hnd2)
    obtain ⟨s1, t1, _, rfl, ht1, es1⟩ := h.mem (hp.mem_iff.mp ha)
    obtain ⟨s2, t2, _, rfl, ht2, es2⟩ := h.mem (hp.mem_iff.mp hb)
    obtain ⟨h4, h5⟩ := hab
    have h6 := SrtO.lexB_no.mp h4
    rw [keyOf_tup ht1, keyOf_tup ht2] at h6
    rw [es1, es2] at h5 ⊢
    simp only at h6
    omega
end
section
variable {K : PySem.W.Frag} {σ : L2.St} {H H' : Hp} {ta tb te : TE} {D : Ends} {tz : TS}
/-- sorted((key, symbol) for symbol, w in enumerate(xs) if ..): what comes of it -/
theorem tSort_use {ys : List V} {key : Nat → Int} {o : List Nat} {H1 : Hp} {R : Addr → Hp → Prop} (h : PrG key H1 ys o) (hn : o.Nodup) (q : ∀ p zs o', H1 p = none → PrG key (upd H1 p (.lst zs)) zs o' → o'.Perm o → (o'.Pairwise fun a b => key a < key b ∨ (key a = key b ∧ a < b)) → R p (upd H1 p (.lst zs))) :
    ∀ p, H1 p = none → rSortPO (.ref p) [] (upd H1 p (.lst ys)) fun _ H2 => R p H2 := fun p hp => by
  have e1 : Ex H1 (upd H1 p (.lst ys)) := Ex.new hp
  refine ⟨p, ys, keyOf H1, rfl, rfl, upd_same, fun y hy => ?_, fun zs hsr hst => ?_⟩
  · obtain ⟨s, t, _, rfl, ht, _⟩ := h.mem hy
    refine ⟨t, rfl, ?_⟩
    rw [keyOf_tup ht]
    exact e1 t _ ht
  · have hov : upd (upd H1 p (.lst ys)) p (.lst zs) = upd H1 p (.lst zs) := by
      funext b
      by_cases e : b = p
      · rw [e, upd_same, upd_same]
      · rw [upd_ne e, upd_ne e, upd_ne e]
    rw [hov]
    obtain ⟨h1, h2, h3⟩ := h.sorted hst.perm hsr hn
    exact q p zs _ hp (h1.ext (Ex.new hp)) h2 h3
/-- xs[i] = a new list -/
theorem s_setLL {l : Addr} {xs ys : List V} {j : Nat} (hl : H l = some (.lst xs)) (h : EvL te σ H ys) (ho : Ev ta σ H (.ref l)) (hi : Ev tb σ H (.int (j : Int))) (hj : j < xs.length) (k : ∀ p H1, H p = none → Ex H H1 → H1 p = some (.lst ys) → D.nx σ (upd H1 l (.lst (xs.set j (.ref p))))) :
    tAsg te (gSub ta tb rSetL) D σ H := h H (Ex.refl H) _ fun p H1 hp e1 h1 => ho H1 e1 _ fun H2 e2 => hi H2 (e1.trans e2) _ fun H3 e3 =>
  ⟨l, xs, (j : Int), j, rfl, rfl, ((e1.trans e2).trans e3) l _ hl, ixN_nat hj, k p H3 hp ((e1.trans e2).trans e3) ((e2.trans e3) p _ h1)⟩
theorem q_setLL {l : Addr} {xs ys : List V} {j : Nat} (hl : H l = some (.lst xs)) (h : EvL te σ H ys) (ho : Ev ta σ H (.ref l)) (hi : Ev tb σ H (.int (j : Int))) (hj : j < xs.length) (k : ∀ p H1, H p = none → Ex H H1 → H1 p = some (.lst ys) → tz D σ (upd H1 l (.lst (xs.set j (.ref p))))) :
    tSeq (tAsg te (gSub ta tb rSetL)) tz D σ H := s_setLL (D := { D with nx := tz D }) hl h ho hi hj k
theorem flat_rep (n : Nat) (v : V) : (List.replicate n [v]).flatten = List.replicate n v := by
  induction n with
  | zero => rfl
  | succ n ih => rw [List.replicate_succ, List.replicate_succ, List.flatten_cons, ih] <;> rfl
end
end KC
set_option Elab.async false
set_option linter.all false
set_option maxRecDepth 100000
set_option maxHeartbeats 4000000
/-! Pairs, calls that may raise, isinstance, a, b = x, y. -/
namespace KQ
open PySem PySem.Spec PyProof.Rows L2 StX GX KC Evl KX
structure Bs2 (mg : Str → Option Value) : Prop where
  str : mg "str" = none
  tuple : mg "tuple" = none
  all : mg "all" = none
/-! ### a, b = x, y with plain local names -/
def tPar2 (i j : Nat) (ta : TA) : TS := fun D σ H => ta σ H fun vs H1 => ∃ u v, vs = [u, v] ∧ D.nx ((σ.set i (some u)).set j (some v)) H1
section
variable {X : Cx}
theorem ps_par2 {i j : Nat} {x y : Str} {a b : Expr} {ta : TA} {px py pt pos : Pos} {kt k2 pt2} (hc : X.calm = true) (hN : X.N.Nodup) (hi : X.N[i]? = some x) (hj : X.N[j]? = some y) (hij : i ≠ j)
    (hx : X.env.scope.names.lookup x = some .local) (hy : X.env.scope.names.lookup y = some .local) (ha : PA X [a, b] ta)
    (hw : swappedStores [.Tuple [.Name x px, .Name y py] kt pt] (.Tuple [a, b] k2 pt2) X.env = pure (some [x, y])) (hs : swapsWithSole [.Tuple [.Name x px, .Name y py] kt pt] (.Tuple [a, b] k2 pt2) pos.line X.env = pure false := by rfl) :
    PS X (.Assign [.Tuple [.Name x px, .Name y py] kt pt] (.Tuple [a, b] k2 pt2) pos) (tPar2 i j ta) := by
  refine ⟨fun pins s σ H D I h => ?_⟩
  refine (exec_Assign_arm .. ▸ wpAny_bind (wpAny_standAt ?_) : _)
  refine hs ▸ wpAny_bind (wpAny_pure ?_)
  refine (if_neg (show ¬ false = true by decide)).symm ▸ ?_
  refine wpAny_bind (Tuple_ (thn (ha.run _ pins s σ H _ I h) fun us s1 w0 => ?_))
  obtain ⟨vs, H1, I1, r1, v1, v2, e1, q1⟩ := w0
  subst e1
  obtain ⟨u1, u2, rfl, ra, rb⟩ := vals2 r1
  refine wpAny_newObj_type ?_ (by show 2 ≤ sizeLine; decide)
  have I2 : Inv X pins σ H1 { s1 with heap := s1.heap.push { cls := .type "tuple", data := .seq [u1, u2].toArray } } := I1.kept (t' := s1.toks) fun b o e => Heap.get?_push_of_some _ e
  refine hw ▸ wpAny_bind (wpAny_pure ?_)
  show wpAny (model X.prog X.w) X.A (rule "assign.swapped-stores" >>= fun _ => unpackItems (.ref s1.heap.objs.size) 2 none >>= fun its => assignInOrder [fun v => bindName X.env y v, fun v => bindName X.env x v] its.reverse >>= fun _ => pure Flow.next) _ _ _
  refine wpAny_bind (wpAny_rule (wpAny_bind (unpackItems_tuple (items := #[u1, u2]) (I.ok.hd hc) (IsTup.new s1.heap _) fun hp hx2 => ?_)))
  have I3 := I2.kept (h' := hp) (t' := s1.toks) fun b o e => hx2 b o (Nat.ne_of_lt (Heap.lt_size e)) e
  show wpAny _ _ (assignInOrder [fun v => bindName X.env y v, fun v => bindName X.env x v] [u2, u1] >>= fun _ => pure Flow.next) _ _ _
  refine wpAny_bind (assignInOrder_cons (wpAny_bindName (store_ok I3 hN hj (.inl hy) rb (fun s2 I4 => ?_) (.inr hy))))
  refine assignInOrder_cons (wpAny_bindName (store_ok I4 hN hi (.inl hx) ra (fun s3 I5 => assignInOrder_nil (wpAny_pure ?_)) (.inr hx)))
  rw [List.set_comm _ _ (Ne.symm hij)] at I5
  exact ⟨_, H1, I5, q1⟩
end
/-! ### calls that may raise -/
theorem ErrOut.mono {C : Addr} {nm : Str} {i : Int} {H H' : Hp} {E : XK} (e : Ex H H') (h : ErrOut C nm i H E) : ErrOut C nm i H' E := fun d H2 hd e2 h2 => h d H2 (fresh_back e hd) (e.trans e2) h2
/-- a new tuple -/
def RetT (xs : List V) (H : Hp) (Q : VK) : Prop := ∀ p H2, H p = none → Ex H H2 → H2 p = some (.tup xs) → Q (.ref p) H2
theorem RetT.mono {xs : List V} {H H' : Hp} {Q : VK} (e : Ex H H') (h : RetT xs H Q) : RetT xs H' Q := fun p H2 hp e2 h2 => h p H2 (fresh_back e hp) (e.trans e2) h2
section
variable {K : PySem.W.Frag} {σ : L2.St} {H H' : Hp} {ta tb tc te tx tl : TE} {D : Ends} {tz : TS} {x y z v : V} {t u : TT}
theorem q_par2 {i j : Nat} {ta : TA} (h : EvA ta σ H [x, y]) (k : ∀ H1, Ex H H1 → tz D ((σ.set i (some x)).set j (some y)) H1) : tSeq (tPar2 i j ta) tz D σ H := h H (Ex.refl H) _ fun H1 e1 => ⟨_, _, rfl, k H1 e1⟩
theorem s_par2 {i j : Nat} {ta : TA} (h : EvA ta σ H [x, y]) (k : ∀ H1, Ex H H1 → D.nx ((σ.set i (some x)).set j (some y)) H1) : tPar2 i j ta D σ H := h H (Ex.refl H) _ fun H1 e1 => ⟨_, _, rfl, k H1 e1⟩
theorem q_asg2 {i j : Nat} {ta : TA} (h : EvA ta σ H [x, y]) (k : ∀ H1, Ex H H1 → tz D ((σ.set i (some x)).set j (some y)) H1) : tSeq (tAsg (tTup ta) (gTup K 2 (gCons (gName i) (gCons (gName j) gNil)))) tz D σ H :=
  h H (Ex.refl H) _ fun H1 e1 => ⟨by show 2 ≤ sizeLine; decide, fun p hp => ⟨p, _, rfl, .inl (.inl upd_same), rfl, _, _, rfl, _, _, rfl, rfl, k _ (e1.trans (Ex.new hp))⟩⟩
theorem g_two {i j : Nat} {p : Addr} {Q : L2.St → Hp → Prop} (hp : SqT K H p [x, y]) (k : Q ((σ.set i (some x)).set j (some y)) H) : gTup K 2 (gCons (gName i) (gCons (gName j) gNil)) (.ref p) σ H Q := ⟨p, _, rfl, hp, rfl, _, _, rfl, _, _, rfl, rfl, k⟩
theorem g_three {i j l : Nat} {p : Addr} {Q : L2.St → Hp → Prop} (hp : SqT K H p [x, y, z]) (k : Q (((σ.set i (some x)).set j (some y)).set l (some z)) H) : gTup K 3 (gCons (gName i) (gCons (gName j) (gCons (gName l) gNil))) (.ref p) σ H Q := ⟨p, _, rfl, hp, rfl, _, _, rfl, _, _, rfl, _, _, rfl, rfl, k⟩
theorem q_unp2 {i j : Nat} {p : Addr} (h : Ev te σ H (.ref p)) (hp : SqT K H p [x, y]) (k : ∀ H1, Ex H H1 → tz D ((σ.set i (some x)).set j (some y)) H1) : tSeq (tAsg te (gTup K 2 (gCons (gName i) (gCons (gName j) gNil)))) tz D σ H :=
  h H (Ex.refl H) _ fun H1 e1 => g_two (ex_t e1 hp) (k H1 e1)
theorem q_unp3' {i j l : Nat} {p : Addr} (h : Ev te σ H (.ref p)) (hp : SqT K H p [x, y, z]) (k : ∀ H1, Ex H H1 → tz D (((σ.set i (some x)).set j (some y)).set l (some z)) H1) : tSeq (tAsg te (gTup K 3 (gCons (gName i) (gCons (gName j) (gCons (gName l) gNil))))) tz D σ H :=
  h H (Ex.refl H) _ fun H1 e1 => g_three (ex_t e1 hp) (k H1 e1)
/-- a, b = f(..) -/
theorem q_unpX {sp : Sp} {E : XK} {vs : List V} {ta : TA} {g : TG} (h : EvA ta σ H vs) (k : ∀ H1, Ex H H1 → sp (vs ++ []) H1 (fun v H2 => g v σ H2 fun σ' H' => tz D σ' H') E) : tSeq (tAsg (tCall sp [] E ta) g) tz D σ H := h H (Ex.refl H) _ fun H1 e1 => k H1 e1
theorem s_unpX {sp : Sp} {E : XK} {vs : List V} {ta : TA} {g : TG} (h : EvA ta σ H vs) (k : ∀ H1, Ex H H1 → sp (vs ++ []) H1 (fun v H2 => g v σ H2 fun σ' H' => D.nx σ' H') E) : tAsg (tCall sp [] E ta) g D σ H := h H (Ex.refl H) _ fun H1 e1 => k H1 e1
theorem s_retX {sp : Sp} {E : XK} {vs : List V} {ta : TA} (h : EvA ta σ H vs) (k : ∀ H1, Ex H H1 → sp (vs ++ []) H1 D.rt E) : tRet (tCall sp [] E ta) D σ H := h H (Ex.refl H) _ fun H1 e1 => k H1 e1
/-- return xs, y with a new list -/
theorem s_retLT {xs : List V} (h : EvL ta σ H xs) (h2 : ∀ H1, Ex H H1 → Ev tb σ H1 y) (k : ∀ b p H2, H b = none → H p = none → Ex H H2 → H2 b = some (.lst xs) → H2 p = some (.tup [.ref b, y]) → D.rt (.ref p) H2) : tRet (tTup (tCons ta (tCons tb tNil))) D σ H :=
  h H (Ex.refl H) _ fun b H1 nb e1 h1 => h2 H1 e1 H1 (Ex.refl H1) _ fun H2 e2 => ⟨by show 2 ≤ sizeLine; decide, fun p hp => k b p _ nb (fresh_back (e1.trans e2) hp) ((e1.trans e2).trans (Ex.new hp)) ((e2.trans (Ex.new hp)) b _ h1) upd_same⟩
/-- return x, ys with a new list -/
theorem s_retTL {xs : List V} (h : Ev ta σ H x) (h2 : ∀ H1, Ex H H1 → EvL tb σ H1 xs) (k : ∀ b p H2, H b = none → H p = none → Ex H H2 → H2 b = some (.lst xs) → H2 p = some (.tup [x, .ref b]) → D.rt (.ref p) H2) : tRet (tTup (tCons ta (tCons tb tNil))) D σ H :=
  h H (Ex.refl H) _ fun H1 e1 => h2 H1 e1 H1 (Ex.refl H1) _ fun b H2 nb e2 hb => ⟨by show 2 ≤ sizeLine; decide, fun p hp => k b p _ (fresh_back e1 nb) (fresh_back (e1.trans e2) hp) ((e1.trans e2).trans (Ex.new hp)) ((Ex.new hp) b _ hb) upd_same⟩
/-- return x, y -/
theorem s_ret2 (h : Ev ta σ H x) (h2 : Ev tb σ H y) (k : RetT [x, y] H D.rt) : tRet (tTup (tCons ta (tCons tb tNil))) D σ H := s_retU (eu_tup (ea2 h h2) (by show 2 ≤ 100000; decide)) k
theorem s_ret3 (h : Ev ta σ H x) (h2 : Ev tb σ H y) (h3 : Ev tc σ H z) (k : RetT [x, y, z] H D.rt) : tRet (tTup (tCons ta (tCons tb (tCons tc tNil)))) D σ H := s_retU (eu_tup (ea3 h h2 h3) (by show 3 ≤ 100000; decide)) k
theorem ep_call {sp : Sp} {dvs vs : List V} {E : XK} {ta : TA} {R : V → Hp → Prop} (h : EvA ta σ H vs) (hs : ∀ H1, Ex H H1 → ∀ Q : VK, (∀ v H2, Ex H1 H2 → R v H2 → Q v H2) → sp (vs ++ dvs) H1 Q E) : EvP (tCall sp dvs E ta) σ H R := fun H1 e Q q =>
  h H1 e _ fun H2 e2 => hs H2 (e.trans e2) Q fun v H3 e3 r => q v H3 (e2.trans e3) r
theorem el_cat3 {xs ys : List V} {a : Addr} (ha : Ev ta σ H (.ref a)) (h0 : H a = some (.lst xs)) (hb : EvL tb σ H ys) (hz : xs.length + ys.length ≤ 100000) : EvL (tOp rCat ta tb) σ H (xs ++ ys) := fun H1 e Q q =>
  ha H1 e _ fun H2 e2 => hb H2 (e.trans e2) _ fun p H3 np e3 hp => ⟨a, p, xs, ys, rfl, rfl, ((e.trans e2).trans e3) a _ h0, hp, sz_of hz, fun p2 hp2 => q p2 _ (fresh_back (e2.trans e3) hp2) ((e2.trans e3).trans (Ex.new hp2)) upd_same⟩
theorem el_catLL {xs ys : List V} (ha : EvL ta σ H xs) (hb : EvL tb σ H ys) (hz : xs.length + ys.length ≤ 100000) : EvL (tOp rCat ta tb) σ H (xs ++ ys) := fun H1 e Q q =>
  ha H1 e _ fun a H2 na e2 h2 => hb H2 (e.trans e2) _ fun p H3 np e3 hp => ⟨a, p, xs, ys, rfl, rfl, e3 a _ h2, hp, sz_of hz, fun p2 hp2 => q p2 _ (fresh_back (e2.trans e3) hp2) ((e2.trans e3).trans (Ex.new hp2)) upd_same⟩
/-- isinstance(x, C) of a value that is at hand -/
theorem ev_isi {c : String} {t : Value} {b : Bool} (h : Ev ta σ H x) (ty : ∀ H1, Ex H H1 → TyX K H1 x t) (hk : PySem.W.kitOne K t (.type c) = some b) : Ev (tCB (rIsi K) (tCons ta (tCons (tC (.ty c)) tNil))) σ H (.bl b) := fun H1 e Q q =>
  h H1 e _ fun H2 e2 => ⟨x, .ty c, t, .type c, b, rfl, .ty c, ty H2 (e.trans e2), hk, q H2 e2⟩
theorem EvP.of_ev (h : Ev te σ H v) : EvP te σ H fun w _ => w = v := fun H1 e Q q => h H1 e Q fun H2 e2 => q _ H2 e2 rfl
theorem dpAll_at {ds : List PyData} {vs : List V} (h : DpAll K H vs ds) {j : Nat} {d : PyData} (hj : ds[j]? = some d) : ∃ v, vs[j]? = some v ∧ Dp K H v d := by
  induction ds generalizing vs j with
  | nil => simp at hj
  | cons d0 r ih =>
    cases h with
    | cons a b =>
      cases j with
      | zero =>
        have : d0 = d := by simpa using hj
        subst this
        exact ⟨_, rfl, a⟩
      | succ j =>
        obtain ⟨v, h1, h2⟩ := ih b (j := j) (by simpa using hj)
        exact ⟨v, by simpa using h1, h2⟩
/-- [a, b, ..][j], data -/
theorem ed_ixNew {ta : TA} {ds : List PyData} {d : PyData} {j : Nat} {i : Int} (h : EvDA K ta σ H ds) (hl : ds.length ≤ 100000) (hb : Ev tb σ H (.int i)) (ei : i = (j : Int)) (hj : ds[j]? = some d) : EvD K (tOp (rIxL K) (tLst ta) tb) σ H d := fun H1 e Q q =>
  h H1 e _ fun vs H2 e2 hvs => ⟨sz_of (by rw [DpAll.len hvs]; exact hl), fun p hp => hb _ ((e.trans e2).trans (Ex.new hp)) _ fun H3 e3 => by
    obtain ⟨v, h1, h2⟩ := dpAll_at hvs hj
    exact ⟨p, vs, i, v, rfl, rfl, sq_of (e3 p _ upd_same), at_of ei h1, q v H3 ((e2.trans (Ex.new hp)).trans e3) (Dp.ext ((Ex.new hp).trans e3) _ _ h2)⟩⟩
end
section
variable {K : PySem.W.Frag} {σ : L2.St} {H H' : Hp} {ta tb tc te tx tl : TE} {D : Ends} {tu tz : TS} {g : TG} {x y z v : V}
/-- for .. in reversed(f(..)): over a list that is made -/
theorem s_forRevP {C : Addr → List V → Hp → Prop} (h : EvP te σ H fun v H1 => ∃ p xs, v = .ref p ∧ H1 p = some (.lst xs) ∧ C p xs H1) (Pv : Addr → List V → Nat → L2.St → Hp → Prop) (h0 : ∀ p xs H1, Ex H H1 → H1 p = some (.lst xs) → C p xs H1 → Pv p xs 0 σ H1) (hl : ∀ p xs i σ' H', i ≤ xs.length → Pv p xs i σ' H' → SqL K H' p xs)
    (hs : ∀ p xs i x σ' H', xs[xs.length - 1 - i]? = some x → i < xs.length → Pv p xs i σ' H' → g x σ' H' fun σ2 H2 => tu { D with nx := Pv p xs (i + 1), ct := Pv p xs (i + 1), bk := D.nx } σ2 H2) (hd : ∀ p xs σ' H', Pv p xs xs.length σ' H' → D.nx σ' H') : tFor (iRev K (tCons te tNil)) g tu D σ H := by
  refine h H (Ex.refl H) _ fun v H1 e1 hv => ?_
  obtain ⟨p, xs, rfl, h1, hc⟩ := hv
  refine ⟨p, xs, rfl, sq_of h1, fun i m σ H => m = xs.length - i ∧ i ≤ xs.length ∧ Pv p xs i σ H, ⟨xs.length, by simp, Nat.zero_le _, h0 p xs H1 e1 h1 hc⟩, ?_⟩
  rintro i m σ H ⟨rfl, hi, pv⟩
  have q := hl p xs i σ H hi pv
  by_cases hlt : i < xs.length
  · have hx : xs[xs.length - 1 - i]? = some (xs[xs.length - 1 - i]'(by omega)) := List.getElem?_eq_getElem (by omega)
    refine .inr ⟨⟨hlt, xs, _, q, hx⟩, Pv p xs (i + 1), fun σ' H' p' => ⟨xs.length - (i + 1), by omega, rfl, hlt, p'⟩, fun x H' y => ?_⟩
    obtain ⟨rfl, hy⟩ := y
    exact hs p xs i x σ _ (hy xs q) hlt pv
  · have : i = xs.length := by omega
    subst this
    exact .inl ⟨Nat.le_refl _, hd p xs σ H pv⟩
theorem q_forRevP {C : Addr → List V → Hp → Prop} (h : EvP te σ H fun v H1 => ∃ p xs, v = .ref p ∧ H1 p = some (.lst xs) ∧ C p xs H1) (Pv : Addr → List V → Nat → L2.St → Hp → Prop) (h0 : ∀ p xs H1, Ex H H1 → H1 p = some (.lst xs) → C p xs H1 → Pv p xs 0 σ H1) (hl : ∀ p xs i σ' H', i ≤ xs.length → Pv p xs i σ' H' → SqL K H' p xs)
    (hs : ∀ p xs i x σ' H', xs[xs.length - 1 - i]? = some x → i < xs.length → Pv p xs i σ' H' → g x σ' H' fun σ2 H2 => tu { D with nx := Pv p xs (i + 1), ct := Pv p xs (i + 1), bk := tz D } σ2 H2) (hd : ∀ p xs σ' H', Pv p xs xs.length σ' H' → tz D σ' H') : tSeq (tFor (iRev K (tCons te tNil)) g tu) tz D σ H :=
  s_forRevP (D := { D with nx := tz D }) h Pv h0 hl hs hd
theorem q_forRevN {xs : List V} (h : EvL te σ H xs) (Pv : Addr → Nat → L2.St → Hp → Prop) (h0 : ∀ p H1, H p = none → Ex H H1 → H1 p = some (.lst xs) → Pv p 0 σ H1) (hl : ∀ p i σ' H', i ≤ xs.length → Pv p i σ' H' → SqL K H' p xs)
    (hs : ∀ p i x σ' H', xs[xs.length - 1 - i]? = some x → i < xs.length → Pv p i σ' H' → g x σ' H' fun σ2 H2 => tu { D with nx := Pv p (i + 1), ct := Pv p (i + 1), bk := tz D } σ2 H2) (hd : ∀ p σ' H', Pv p xs.length σ' H' → tz D σ' H') : tSeq (tFor (iRev K (tCons te tNil)) g tu) tz D σ H :=
  q_forRevP (C := fun p ys H1 => ys = xs ∧ H p = none ∧ H1 p = some (.lst xs)) (fun H1 e Q q => h H1 e Q fun p H2 np e2 h2 => q _ H2 e2 ⟨p, xs, rfl, h2, rfl, fresh_back e np, h2⟩) (fun p ys i σ' H' => ys = xs ∧ Pv p i σ' H') (fun p ys H1 e1 h1 ⟨a, b, c⟩ => ⟨a, h0 p H1 b e1 c⟩) (fun p ys i σ' H' hi ⟨a, b⟩ => by subst a; exact hl p i σ' H' hi b)
    (fun p ys i x σ' H' hx hi ⟨a, b⟩ => by
      subst a
      have key : ∀ σ2 H2, (fun σ H => Pv p (i + 1) σ H) σ2 H2 ↔ (ys = ys ∧ Pv p (i + 1) σ2 H2) := fun σ2 H2 => ⟨fun z => ⟨rfl, z⟩, fun z => z.2⟩
      have e : (fun σ2 H2 => ys = ys ∧ Pv p (i + 1) σ2 H2) = Pv p (i + 1) := by
        funext σ2 H2
        exact propext (key σ2 H2).symm
      rw [e]
      exact hs p i x σ' H' hx hi b) (fun p ys σ' H' ⟨a, b⟩ => by subst a; exact hd p σ' H' b)
/-- xs[i:j] of a new list -/
theorem el_slN {tl th : TO} {xs : List V} {lo hi : Option Int} (h : EvL te σ H xs) (h1 : ∀ H1, Ex H H1 → EvO tl σ H1 lo) (h2 : ∀ H1, Ex H H1 → EvO th σ H1 hi) : EvL (tSl (rSlL K) te tl th) σ H (cutV xs lo hi) := fun H1 e Q q =>
  h H1 e _ fun a H2 na e2 ha => h1 H2 (e.trans e2) H2 (Ex.refl _) _ fun H3 e3 => h2 H3 ((e.trans e2).trans e3) H3 (Ex.refl _) _ fun H4 e4 =>
    ⟨a, xs, rfl, sq_of ((e3.trans e4) a _ ha), fun p hp => q p _ (fresh_back ((e2.trans e3).trans e4) hp) (((e2.trans e3).trans e4).trans (Ex.new hp)) upd_same⟩
theorem cutV_from (xs : List V) (n : Nat) : cutV xs (some (n : Int)) none = xs.drop n := by
  unfold cutV
  rw [HT.sIx_none, HT.sIx_nat]
  by_cases h : n ≤ xs.length
  · rw [Nat.min_eq_left h, List.take_of_length_le (by rw [List.length_drop]; omega)]
  · rw [Nat.min_eq_right (by omega), List.drop_eq_nil_of_le (Nat.le_refl _), List.drop_eq_nil_of_le (by omega), List.take_nil]
theorem ev_bits {i : Int} (h : Ev te σ H (.int i)) : Ev (tBits te) σ H (.int (Builtin.Int.intBits i : Nat)) := fun H1 e Q q => h H1 e _ fun H2 e2 => ⟨i, rfl, q H2 e2⟩
/-- [e for j in range(a, b, -1)] -/
theorem el_lcDown {ta : TA} {te : TE} {j : Nat} {vs : List Nat} {a b : Int} {n : Nat} (v : Nat → V) (h : EvA ta σ H [.int a, .int b, .int (-1)]) (hn : (a - b).toNat = n) (ha : -100000 ≤ a ∧ a ≤ 100000) (hb : -100000 ≤ b ∧ b ≤ 100000) (hn2 : n ≤ 40000)
    (hw : ∀ x, wipe ((wipe σ vs).set j (some x)) vs = wipe σ vs) (he : ∀ (i : Nat) H1, Ex H H1 → i < n → Ev te ((wipe σ vs).set j (some (.int (a + (i : Nat) * (-1))))) H1 (v i)) : EvL (tLc (iRng3 ta) (gName j) tYes te vs) σ H ((List.range n).map v) := fun H1 e Q q =>
  h H1 e _ fun H2 e2 => ⟨a, b, -1, n, rfl, by rw [← hn]; exact RgC.neg (by omega) (by omega) (by omega) (by omega), fun Dl hD =>
    ⟨fun i m H' => m + i = n ∧ H2 Dl = none ∧ Ex H2 H' ∧ H' Dl = some (.lst ((List.range i).map v)), ⟨n, by omega, hD, Ex.new hD, upd_same⟩, fun i m H' hW => by
      obtain ⟨hm, hD2, e3, hl⟩ := hW
      by_cases hi : i < n
      · right
        refine ⟨hi, fun H' => (m - 1) + (i + 1) = n ∧ H2 Dl = none ∧ Ex H2 H' ∧ H' Dl = some (.lst ((List.range (i + 1)).map v)), fun H' q => ⟨m - 1, by omega, q⟩, ?_⟩
        rintro x H5 ⟨rfl, rfl⟩
        refine ⟨hw _, tt_yes ?_⟩
        refine he i _ ((e.trans e2).trans e3) hi _ (Ex.refl _) _ fun H6 e6 => ?_
        refine ⟨_, e6 Dl _ hl, sz_lt (by rw [List.length_map, List.length_range]; omega), by omega, hD2, Ex.mut (e3.trans e6) hD2, ?_⟩
        rw [upd_same, List.range_succ, List.map_append]
        rfl
      · left
        have hin : i = n := by omega
        subst hin
        exact ⟨Nat.le_refl _, q Dl H' (fresh_back e2 hD2) (e2.trans e3) hl⟩⟩⟩
theorem p2_abs (m : Nat) : ((2 : Int) ^ m).natAbs < 2 ^ (m + 1) := by
  rw [Int.natAbs_pow]
  exact Nat.pow_lt_pow_right (by decide) (Nat.lt_succ_self m)
theorem rv_divP {i : Int} {m : Nat} (h : m ≤ 8000) : RV (rI CDivW fun i j => .int (i / j)) (.int i) (.int (2 ^ m)) H (.int (i / 2 ^ m)) := rv_I (wide_div (b := m + 1) (Int.pow_pos (by decide)) (p2_abs m) (by omega) (by omega))
/-- 1 << m -/
theorem ev_shl1 {z : Int} {m : Nat} (h : Ev te σ H (.int z)) (e : z = (m : Int)) (hm : m ≤ 1000000) : Ev (tOp (rI CPow fun i j => .int (i * 2 ^ j.toNat)) (tC (.int 1)) te) σ H (.int (2 ^ m)) := by
  subst e
  refine ev_is (ev_op (ev_c (v := .int 1)) h (rv_shl ⟨by omega, by omega, by decide⟩)) ?_
  rw [Int.toNat_natCast, Int.one_mul]
/-- a list of lists of ints -/
def LL (H : Hp) (p : Addr) (cs : List (List Int)) : Prop := ∃ rs : List Addr, H p = some (.lst (rs.map V.ref)) ∧ rs.length = cs.length ∧ ∀ (j : Nat) (r : Addr) (c : List Int), rs[j]? = some r → cs[j]? = some c → H r = some (.lst (c.map V.int))
theorem LL.ext {p : Addr} {cs : List (List Int)} (e : Ex H H') (h : LL H p cs) : LL H' p cs := by
  obtain ⟨rs, h1, h2, h3⟩ := h
  exact ⟨rs, e _ _ h1, h2, fun j r c a b => e _ _ (h3 j r c a b)⟩
theorem LL.at_ {p : Addr} {cs : List (List Int)} (h : LL H p cs) {j : Nat} {c : List Int} (hc : cs[j]? = some c) : ∃ r, H r = some (.lst (c.map V.int)) ∧ ∀ {te ti : TE} {σ : L2.St} {H' : Hp} {i : Int}, Ex H H' → Ev te σ H' (.ref p) → Ev ti σ H' (.int i) → i = (j : Int) → Ev (tOp (rIxL K) te ti) σ H' (.ref r) := by
  obtain ⟨rs, h1, h2, h3⟩ := h
  obtain ⟨r, hr⟩ : ∃ r, rs[j]? = some r := ⟨_, List.getElem?_eq_getElem (by rw [h2]; exact (List.getElem?_eq_some_iff.mp hc).1)⟩
  refine ⟨r, h3 j r c hr hc, fun e a b ei => ev_op a b (rv_ixL (sq_of (e _ _ h1)) (at_of ei ?_))⟩
  rw [List.getElem?_map, hr]
  rfl
theorem LL.dp {p : Addr} {cs : List (List Int)} (h : LL H p cs) : Dp K H (.ref p) (.list (cs.map fun c => .list (c.map PyData.int))) := by
  obtain ⟨rs, h1, h2, h3⟩ := h
  refine .lst (sq_of h1) ?_
  clear h1
  induction cs generalizing rs with
  | nil =>
    have : rs = [] := List.length_eq_zero_iff.mp h2
    subst this
    exact .nil
  | cons c r ih =>
    match rs, h2, h3 with
    | a :: rs, h2, h3 => exact .cons (dp_listI (sq_of (h3 0 a c rfl rfl))) (ih rs (by simpa using h2) fun j r c a b => h3 (j + 1) r c a b)
theorem ll_eqv (cs : List (List Int)) : PyData.eqv (.list (cs.map fun c => .list (c.map PyData.int))) (.list (cs.map fun c => .list (c.map PyData.int))) = true := eqv_list (fun a => eqv_ints a) cs
theorem ll_shaped (cs : List (List Int)) : SeqAt.shaped (.list (cs.map fun c => .list (c.map PyData.int))) = true := shaped_list (n := 10) (by decide) (fun a => by simp only [PyData.canLay0]; exact canLayAll0_map (fun a => by simp [PyData.canLay0]) a) (fun a => by
  have := depthAll_map (f := PyData.int) (n := 1) (fun a => by simp [PyData.depth]) a
  simp only [PyData.depth]
  omega) cs
/-- [f(..), g(..), h(..), k(..)], four new lists -/
theorem ep_lst4L {t1 t2 t3 t4 : TE} {a b c d : List Int} (h1 : EvL t1 σ H (a.map V.int)) (h2 : EvL t2 σ H (b.map V.int)) (h3 : EvL t3 σ H (c.map V.int)) (h4 : EvL t4 σ H (d.map V.int)) : EvP (tLst (tCons t1 (tCons t2 (tCons t3 (tCons t4 tNil))))) σ H fun v H' => ∃ p, v = .ref p ∧ H p = none ∧ LL H' p [a, b, c, d] := fun H0 e0 Q q =>
  h1 H0 e0 _ fun p1 H1 n1 e1 x1 => h2 H1 (e0.trans e1) _ fun p2 H2 n2 e2 x2 => h3 H2 ((e0.trans e1).trans e2) _ fun p3 H3 n3 e3 x3 => h4 H3 (((e0.trans e1).trans e2).trans e3) _ fun p4 H4 n4 e4 x4 => ⟨by show 4 ≤ sizeLine; decide, fun l hl => by
    have e14 := (e2.trans e3).trans e4
    have e5 : Ex H4 (upd H4 l (.lst [.ref p1, .ref p2, .ref p3, .ref p4])) := Ex.new hl
    refine q _ _ ((e1.trans e14).trans e5) ⟨l, rfl, fresh_back (e0.trans (e1.trans e14)) hl, [p1, p2, p3, p4], upd_same, rfl, fun j r cc hr hc => ?_⟩
    match j, hr, hc with
    | 0, hr, hc =>
      cases hr
      cases hc
      exact (e14.trans e5) _ _ x1
    | 1, hr, hc =>
      cases hr
      cases hc
      exact ((e3.trans e4).trans e5) _ _ x2
    | 2, hr, hc =>
      cases hr
      cases hc
      exact (e4.trans e5) _ _ x3
    | 3, hr, hc =>
      cases hr
      cases hc
      exact e5 _ _ x4⟩
theorem given_all (n : Nat) (v : Nat → V) : given n (fun _ => true) v = (List.range n).map v := by
  unfold given
  rw [List.filter_eq_self.mpr fun _ _ => rfl]
/-- [e for j in range(n)] -/
theorem el_lcN {ta : TA} {te : TE} {j : Nat} {vs : List Nat} {n : Nat} {z : Int} (v : Nat → V) (h : EvA ta σ H [.int z]) (ez : z = (n : Int)) (hn : n ≤ 40000) (hw : ∀ x, wipe ((wipe σ vs).set j (some x)) vs = wipe σ vs) (he : ∀ (i : Nat) H1, Ex H H1 → i < n → Ev te ((wipe σ vs).set j (some (.int (i : Int)))) H1 (v i)) :
    EvL (tLc (iRng1 ta) (gName j) tYes te vs) σ H ((List.range n).map v) := by
  subst ez
  rw [← given_all]
  have := el_lcR1 (σ := σ) (H := H) (te := te) (j := j) (vs := vs) (fun _ => true) v h ⟨by omega, by omega⟩ hw (fun i H1 e hi => et_yes) (fun i H1 e hi _ => he i H1 e (by omega))
  rwa [Int.toNat_natCast] at this
theorem cutV_ints (ns : List Int) (lo hi : Option Int) : ∃ ys : List Int, cutV (ns.map V.int) lo hi = ys.map V.int ∧ ys.length ≤ ns.length ∧ ∀ y ∈ ys, y ∈ ns := by
  refine ⟨(ns.drop (HT.sIx ns.length 0 lo)).take (HT.sIx ns.length ns.length hi - HT.sIx ns.length 0 lo), ?_, ?_, fun y hy => List.mem_of_mem_drop (List.mem_of_mem_take hy)⟩
  · unfold cutV
    rw [List.length_map, List.map_take, List.map_drop]
  · rw [List.length_take, List.length_drop]
    omega
/-- [f(x) for x in xs], xs a new list of ints -/
theorem el_lcMap {tl : TE} {j : Nat} {vs : List Nat} {xs : List Int} (f : Int → Int) (h : EvL tl σ H (xs.map V.int)) (hz : xs.length ≤ 40000) (hw : ∀ x, wipe ((wipe σ vs).set j (some x)) vs = wipe σ vs)
    (he : ∀ (x : Int) H1, x ∈ xs → Ex H H1 → Ev te ((wipe σ vs).set j (some (.int x))) H1 (.int (f x))) : EvL (tLc (iList K tl) (gName j) tYes te vs) σ H ((xs.map f).map V.int) := by
  have e : (xs.map f).map V.int = given (xs.map V.int).length (fun _ => true) (fun i => V.int (f (xs.getD i 0))) := by
    rw [given_all, List.length_map]
    refine List.ext_getElem (by simp) fun i h1 h2 => ?_
    have hi : i < xs.length := by simpa using h1
    simp only [List.getElem_map, List.getElem_range]
    rw [List.getD_eq_getElem?_getD, List.getElem?_eq_getElem hi]
    rfl
  rw [e]
  refine el_lcNL (K := K) _ _ h (by rw [List.length_map]; exact hz) hw (fun i x H1 e1 hx => et_yes) (fun i x H1 e1 hx _ => ?_)
  have hi : i < xs.length := by
    have := (List.getElem?_eq_some_iff.mp hx).1
    rwa [List.length_map] at this
  rw [int_at hi] at hx
  have ex := Option.some.inj hx
  subst ex
  have hmem : xs.getD i 0 ∈ xs := by
    rw [List.getD_eq_getElem?_getD, List.getElem?_eq_getElem hi]
    exact List.getElem_mem hi
  exact he _ H1 hmem e1
theorem s_retXS {sp : Sp} {E : L2.St → XK} {vs : List V} {ta : TA} (h : EvA ta σ H vs) (k : ∀ H1, Ex H H1 → sp vs H1 D.rt (E σ)) : tRet (tCallS sp E ta) D σ H := h H (Ex.refl H) _ fun H1 e1 => k H1 e1
/-- return e.name, e.place -/
theorem s_caught {a C d : Addr} {nm : Str} {i : Int} {j : Nat} (hσ : σ[j]? = some (some (.ref a))) (hd : H d = some (.xd (flds nm i))) (q : RetT [.str nm, .int i] H D.rt) : tRet (tTup (tCons (tXf a (.ref C) (some d) C "name" (tVar j)) (tCons (tXf a (.ref C) (some d) C "place" (tVar j)) tNil))) D σ H :=
  ⟨_, hσ, rfl, rfl, d, _, _, rfl, hd, rfl, _, hσ, rfl, rfl, d, _, _, rfl, hd, rfl, by show 2 ≤ sizeLine; decide, fun p hp => q p _ hp (Ex.new hp) upd_same⟩
end
theorem passE0 {X : Cx} : Passes (L2.CX X.prog X.w) X E0 := fun _ _ _ _ _ _ _ ⟨_, _, _, _, _, _, _, _, _, _, _, _, h⟩ => h.elim
theorem len_seqK {X : Cx} {K : PySem.W.Frag} (h : X.K = K) : CallR X (.builtin "len") (Evl.rLenS K) := by
  subst h
  exact call_len_seq
theorem sl_listK {X : Cx} {K : PySem.W.Frag} (h : X.K = K) : SlR X (rSlL K) := by
  subst h
  exact sl_list
theorem op_eqDK {X : Cx} {K : PySem.W.Frag} (hu : X.A.units + 64 < cLine) (h : X.K = K) : OpR X (compareOp .Eq) (rEqD K) := by
  subst h
  exact op_eqD hu
theorem op_notIn_seqK {X : Cx} {K : PySem.W.Frag} (h : X.K = K) : OpR X (compareOp .NotIn) (rIn K true) := by
  subst h
  exact op_notIn_seq
/-- what is never reached -/
theorem ps_never {X : Cx} {st : Stmt} : PS X st (fun _ _ _ => False) := ⟨fun _ _ _ _ _ _ h => h.elim⟩
/-- a call in a try's body -/
theorem pe_callXS {X : Cx} {nm : Str} {k : Nat} {ps : List Str} {sp : Sp} {E : L2.St → XK} {p pos : Pos} {e : Expr} {es : List Expr} {t : TA} (C : CalX X.prog X.w X.K X.mg X.base nm k ps sp) (hr : Room k X.A) (hg : Gl X nm) (hx : ∀ σ, PassesAt (L2.CX X.prog X.w) X σ (E σ)) (ha : PA X (e :: es) t)
    (hdb : (nm == ("__debug__" : Str)) = false := by decide) (he : starEach (e :: es) X.env = (false, eval e X.env) :: starEach es X.env := by rfl) (hpl : (backTo pos (starEach es X.env)).any (·.1) = false := by rfl) :
    PE X (.Call (.Name nm p) (e :: es) [] pos) (tCallS sp E t) := by
  obtain ⟨f, fd, h1, h2, h3, h4⟩ := C.out
  exact pe_callS h4 hr hg h1 h2 h3 hx ha hdb he hpl
end KQ
set_option Elab.async false
set_option linter.all false
set_option maxRecDepth 100000
set_option maxHeartbeats 4000000
namespace K06
open PySem PySem.Spec PyProof.Rows L2 StX GX KC KQ Evl M03 M04 M01
def codeB (ls : List Int) : Bool := decide (roomL ls ≥ 0) && ls.any fun x => !decide (x = 0)
def keepB (ls : List Int) (L : Int) : Bool := (ls.all fun x => decide (1 ≤ x) && decide (x ≤ L)) && codeB ls
def soundB (sums : List Int) (L : Int) (ps : List (Stg × Int)) : Bool := ps.all fun p => lowB sums L (certOf ps) p.1 p.2
/-- a certificate: its stages are stages, each once -/
structure CIn (sums : List Int) (L : Int) (ps : List (Stg × Int)) : Prop where
  nd : (ps.map (·.1)).Nodup
  ok : ∀ p ∈ ps, SOk sums L p.1 ∧ p.1.2.2 ≤ 16
  ln : ps.length ≤ 50000
theorem cert_of_mem {ps : List (Stg × Int)} (h : (ps.map (·.1)).Nodup) : ∀ p ∈ ps, certOf ps p.1 = some p.2 := by
  induction ps with
  | nil => intro p hp; exact nomatch hp
  | cons q ps ih =>
    rw [List.map_cons, List.nodup_cons] at h
    intro p hp
    unfold certOf
    rw [List.find?_cons]
    by_cases e : q.1 = p.1
    · rw [decide_eq_true e]
      rcases List.mem_cons.mp hp with z | z
      · rw [z]; rfl
      · exact absurd (List.mem_map.mpr ⟨p, z, e.symm⟩) h.1
    · rw [decide_eq_false e]
      rcases List.mem_cons.mp hp with z | z
      · exact absurd (by rw [z]) e
      · exact ih h.2 p z
def stOf : List Key → Stg
  | [.inl x, .inl y, .inl z] => (x, y, z)
  | _ => (0, 0, 0)
theorem stOf_key (s : Stg) : stOf (keyS s) = s := rfl
section
variable {P : Program} {w : World} {K : PySem.W.Frag} {mg : Str → Option Value} {base : Heap}
def spIsCode (K : PySem.W.Frag) (P1 P2 : Addr) : Sp := fun vs H Q _ => ∃ (l : Addr) (ls : List Int), vs = [.ref l] ∧ SqL K H l (ls.map L2.V.int) ∧ Lok ls ∧ ls.length ≤ 100 ∧ H P1 = some (TabX P1) ∧ H P2 = some (TabX P2) ∧ RetV (.bl (codeB ls)) H Q
theorem ok_is_code {f c P1 P2 : Addr} {fd : FuncData} {k : Nat} (F : FunT K "is_code" "is_code" s_is_code f fd c) (TB : GxR.TabB base mg c P2) (B : Bs mg) (C_room : Cal P w K mg base "room" 7 ["lengths"] (spRoom K P1)) : FnOk P w K mg base CX0 (k + 8) f fd ["lengths"] (spIsCode K P1 P2) := by
  refine F.ok sc_is_code (fun vs H Q E h => ?_) (fun A outer s H vs Q E hr h => ?_)
  · obtain ⟨l, ls, rfl, _⟩ := h
    rfl
  · obtain ⟨l, ls, rfl, hs, hok, hn, t1, t2, q⟩ := h
    refine ⟨_, (pss_one (ps_ret (pe_and (pe_cmpR op_ge (pe_callC C_room (hr.mono (by omega)) (by rfl) (pa_cons (pv 0) pa_nil)) pe_int (nomark _)) (pe_one (pe_anyG (k := 0) (pgx_gen (g := (gName 0)) (N' := ["length"]) (cm := [none]) (own := [0]) (k0 := 0) (k := 0) (hr.mono (by omega)) TB rfl (capOk_by (N := ["lengths"]) (sc := defScope s_is_code) (by decide +kernel)) (pi_list (pv 0)) (fun _ _ _ _ _ _ _ _ hr => (pg_name (i := 0) (show List.Nodup (["length"] : List Str) by decide +kernel) rfl (Or.inl rfl))) (fun _ _ _ _ _ _ _ _ hr => pts_nil) (fun _ _ _ _ _ _ _ _ hr => (pe_cmpR op_ne (pv 0) pe_int (nomark _)))) (hr.mono (by omega)) (by rfl) B.any))))), ?_⟩
    exact s_ret (ev_andV (ev_op (ev_call (ea1 (ev_var rfl)) (sp_room hs hok hn t1)) ev_c rv_I0) fun _ => ev_anyL (K := K) (fun x => !decide (x = 0)) (ev_var rfl) hs (by omega) t2 (fun x => rfl) fun x hx H1 e1 => ev_ne (ev_var rfl) ev_c) q
def spKeeps (K : PySem.W.Frag) (P1 P2 P3 : Addr) : Sp := fun vs H Q _ => ∃ (l : Addr) (ls : List Int) (L : Nat), vs = [.ref l, .int (L : Int)] ∧ SqL K H l (ls.map L2.V.int) ∧ L ≤ 20 ∧ ls.length ≤ 100 ∧ H P1 = some (TabX P1) ∧ H P2 = some (TabX P2) ∧ H P3 = some (TabX P3) ∧ RetV (.bl (keepB ls L)) H Q
theorem ok_keeps_limit {f c P1 P2 P3 : Addr} {fd : FuncData} {k : Nat} (F : FunT K "keeps_limit" "keeps_limit" s_keeps_limit f fd c) (TB : GxR.TabB base mg c P3) (B : Bs mg) (B2 : Bs2 mg) (C_is_code : Cal P w K mg base "is_code" 8 ["lengths"] (spIsCode K P1 P2)) : FnOk P w K mg base CX0 (k + 9) f fd ["lengths", "limit"] (spKeeps K P1 P2 P3) := by
  refine F.ok sc_keeps_limit (fun vs H Q E h => ?_) (fun A outer s H vs Q E hr h => ?_)
  · obtain ⟨l, ls, L, rfl, _⟩ := h
    rfl
  · obtain ⟨l, ls, L, rfl, hs, hL, hn, t1, t2, t3, q⟩ := h
    refine ⟨_, (pss_one (ps_ret (pe_and (pe_allG (k := 0) (pgx_gen (g := (gName 0)) (N' := ["length", "limit"]) (cm := [none, some 1]) (own := [0]) (k0 := 0) (k := 0) (hr.mono (by omega)) TB rfl (capOk_by (N := ["lengths", "limit"]) (sc := defScope s_keeps_limit) (by decide +kernel)) (pi_list (pv 0)) (fun _ _ _ _ _ _ _ _ hr => (pg_name (i := 0) (show List.Nodup (["length", "limit"] : List Str) by decide +kernel) rfl (Or.inl rfl))) (fun _ _ _ _ _ _ _ _ hr => pts_nil) (fun _ _ _ _ _ _ _ _ hr => (pe_chain op_le op_le pe_int (pv 0) (pv 1)))) (hr.mono (by omega)) (by rfl) B2.all) (pe_one (pe_callC C_is_code (hr.mono (by omega)) (by rfl) (pa_cons (pv 0) pa_nil)))))), ?_⟩
    refine s_ret (ev_andV (ev_allL (K := K) (fun x => decide (1 ≤ x) && decide (x ≤ (L : Int))) (ev_var rfl) hs (by omega) t3 (fun x => rfl) fun x hx H1 e1 => ev_chain ev_c (ev_var rfl) rv_I0 (fun _ => ev_var rfl) fun _ => rv_I0) fun hb => ?_) q
    refine ev_call (ea1 (ev_var rfl)) fun H1 e1 Q q E => ⟨l, ls, rfl, ex_l e1 hs, fun x hx => ?_, hn, e1 _ _ t1, e1 _ _ t2, q⟩
    have := List.all_eq_true.mp hb x hx
    rw [Bool.and_eq_true, decide_eq_true_eq, decide_eq_true_eq] at this
    omega
def spSound (P : Program) (w : World) (K : PySem.W.Frag) (P4 : Addr) : Sp := fun vs H Q _ => ∃ (l dc : Addr) (ws : List Int) (L : Nat) (ps : List (Stg × Int)), vs = [.ref l, .int (L : Int), .ref dc] ∧ WIn K ws L l H ∧ DAt P w K H dc (ps.map entC) ∧ CIn (sumsL ws) L ps ∧ H P4 = some (TabX P4) ∧ RetV (.bl (soundB (sumsL ws) L ps)) H Q
theorem ok_is_sound {f c P4 : Addr} {fd : FuncData} {k : Nat} (F : FunT K "is_sound" "is_sound" s_is_sound f fd c) (TB : GxR.TabB base mg c P4) (B : Bs mg) (B2 : Bs2 mg) (C_rests : Cal P w K mg base "rests" 1 ["weights"] (spSums K))
    (C_is_stage_low_enough : Cal P w K mg base "is_stage_low_enough" 3 ["sums", "limit", "stage", "certificate"] (spLow P w K)) : FnOk P w K mg base CX0 (k + 8) f fd ["weights", "limit", "certificate"] (spSound P w K P4) := by
  refine F.ok sc_is_sound (fun vs H Q E h => ?_) (fun A outer s H vs Q E hr h => ?_)
  · obtain ⟨l, dc, ws, L, ps, rfl, _⟩ := h
    rfl
  · obtain ⟨l, dc, ws, L, ps, rfl, hw, hd, hc, t4, q⟩ := h
    refine ⟨_, (pss_cons (ps_set (i := 3) sc_is_sound.nd rfl (Or.inr rfl) (pe_callC C_rests (hr.mono (by omega)) (by rfl) (pa_cons (pv 0) pa_nil)))
      (pss_one (ps_ret (pe_allG (k := 3) (pgx_gen (g := (gName 0)) (N' := ["stage", "sums", "limit", "certificate"]) (cm := [none, some 3, some 1, some 2]) (own := [0]) (k0 := 0) (k := 3) (hr.mono (by omega)) TB rfl (capOk_by (N := ["weights", "limit", "certificate", "sums"]) (sc := defScope s_is_sound) (by decide +kernel)) (pi_dX (P := P) (w := w) (K := K) ⟨rfl, rfl, rfl⟩ (pv 2)) (fun _ _ _ _ _ _ _ _ hr => (pg_name (i := 0) (show List.Nodup (["stage", "sums", "limit", "certificate"] : List Str) by decide +kernel) rfl (Or.inl rfl))) (fun _ _ _ _ _ _ _ _ hr => pts_nil) (fun _ _ _ _ _ _ _ _ hr => (pe_callC C_is_stage_low_enough (hr.mono (by omega)) (by rfl) (pa_cons (pv 1) (pa_cons (pv 2) (pa_cons (pv 0) (pa_cons (pv 3) pa_nil))))))) (hr.mono (by omega)) (by rfl) B2.all)))), ?_⟩
    have n2 := hw.n2
    refine q_asgL (el_call (ea1 (ev_var rfl)) (spl_sums hw.sq (by omega))) fun p H1 hp e1 h1 => ?_
    have hall : ((ps.map entC).all fun kv => lowB (sumsL ws) L (certOf ps) (stOf kv.1) ((certOf ps (stOf kv.1)).getD 0)) = soundB (sumsL ws) L ps := by
      unfold soundB
      rw [List.all_map]
      refine Bool.eq_iff_iff.mpr ?_
      rw [List.all_eq_true, List.all_eq_true]
      refine forall_congr' fun p => forall_congr' fun hp => ?_
      show lowB (sumsL ws) L (certOf ps) p.1 ((certOf ps p.1).getD 0) = true ↔ _
      rw [cert_of_mem hc.nd p hp]
      rfl
    rw [← hall] at q
    refine s_ret (ev_allX (P := P) (w := w) (K := K) (fun k => lowB (sumsL ws) L (certOf ps) (stOf k) ((certOf ps (stOf k)).getD 0)) (ev_var rfl) (hd.ext e1) (by rw [List.length_map]; have := hc.ln; omega) (e1 _ _ t4) (fun x => rfl) fun kv hkv b H2 e2 hb => ?_) fun H2 e2 => q H2 (e1.trans e2)
    obtain ⟨p, hp, rfl⟩ := List.mem_map.mp hkv
    have hv := cert_of_mem hc.nd p hp
    refine ev_call (ea_cons (ev_var rfl) (ea3 (ev_var rfl) (ev_var rfl) (ev_var rfl))) fun H3 e3 Q q E => ⟨_, b, dc, sumsL ws, L, p.1, p.2, ps, rfl, sq_of ((e2.trans e3) _ _ h1), ex_t e3 hb, (hc.ok p hp).1, by rw [sumsL_len]; omega, (hc.ok p hp).2, (hd.ext e1).ext (e2.trans e3), hv, ?_⟩
    have : lowB (sumsL ws) L (certOf ps) (stOf (entC p).1) ((certOf ps (stOf (entC p).1)).getD 0) = lowB (sumsL ws) L (certOf ps) p.1 p.2 := by
      show lowB (sumsL ws) L (certOf ps) p.1 ((certOf ps p.1).getD 0) = _
      rw [hv]
      rfl
    rw [this] at q
    exact q
def shownB (ws : List Int) (L : Nat) (ls : List Int) (ps : List (Stg × Int)) : Bool := decide (ls.length = ws.length) && (keepB ls L && (decide (certOf ps (0, 0, 1) = some (costI ws ls)) && soundB (sumsL ws) L ps))
def spShown (P : Program) (w : World) (K : PySem.W.Frag) (PC P1 P2 P3 P4 : Addr) : Sp := fun vs H Q _ => ∃ (l t dc : Addr) (ws ls : List Int) (L : Nat) (ps : List (Stg × Int)), vs = [.ref l, .int (L : Int), .ref t, .ref dc] ∧ WIn K ws L l H ∧ SqL K H t (ls.map L2.V.int) ∧ ls.length ≤ 100 ∧ (∀ i, i < ws.length → 0 ≤ ws.getD i 0 ∧ ws.getD i 0 ≤ 1000000) ∧
  DAt P w K H dc (ps.map entC) ∧ CIn (sumsL ws) L ps ∧ H PC = some (TabX PC) ∧ H P1 = some (TabX P1) ∧ H P2 = some (TabX P2) ∧ H P3 = some (TabX P3) ∧ H P4 = some (TabX P4) ∧ RetV (.bl (shownB ws L ls ps)) H Q
end
end K06
set_option Elab.async false
set_option linter.all false
set_option maxRecDepth 100000
set_option maxHeartbeats 4000000
set_option exponentiation.threshold 2048
namespace K06
open PySem PySem.Spec PyProof.Rows L2 GX KC Evl M03 M04
theorem llim_fin : ∀ m : Fin 17, m.val ≤ 2 ^ llim m.val ∧ 1 ≤ llim m.val ∧ llim m.val ≤ 4 := by decide
theorem llim_ok {n : Nat} (h : n ≤ 16) : n ≤ 2 ^ llim n ∧ 1 ≤ llim n ∧ llim n ≤ 4 := llim_fin ⟨n, by omega⟩
theorem fits {n L : Nat} (h : n ≤ 16) (hL : llim n ≤ L ∨ 4 ≤ L) : n ≤ 2 ^ L := by
  rcases hL with z | z
  · exact Nat.le_trans (llim_ok h).1 (Nat.pow_le_pow_right (by decide) z)
  · have h1 : 2 ^ 4 ≤ 2 ^ L := Nat.pow_le_pow_right (by decide) z
    have : (2 : Nat) ^ 4 = 16 := rfl
    omega
theorem min_of : ∀ ls : List Int, ls ≠ [] → ∃ m, m ∈ ls ∧ ∀ y ∈ ls, m ≤ y
  | [], h => absurd rfl h
  | [x], _ => ⟨x, List.mem_cons_self, fun y hy => by rw [List.mem_singleton.mp hy]; exact Int.le_refl _⟩
  | x :: y :: r, _ => by
    obtain ⟨m, h1, h2⟩ := min_of (y :: r) (by simp)
    by_cases e : x ≤ m
    · refine ⟨x, List.mem_cons_self, fun z hz => ?_⟩
      rcases List.mem_cons.mp hz with h | h
      · omega
      · have := h2 z h; omega
    · refine ⟨m, List.mem_cons_of_mem _ h1, fun z hz => ?_⟩
      rcases List.mem_cons.mp hz with h | h
      · omega
      · exact h2 z h
section
variable {P : Program} {w : World} {K : PySem.W.Frag} {mg : Str → Option Value} {base : Heap} {σ : L2.St} {H : Hp} {ta tb : TE}
theorem ev_minL {l : Addr} {ls : List Int} {m : Int} (h : Ev ta σ H (.ref l)) (hs : SqL K H l (ls.map L2.V.int)) (hm : m ∈ ls) (hall : ∀ y ∈ ls, m ≤ y) : Ev (tCB (rMin K) (tCons ta tNil)) σ H (.int m) := fun H1 e Q q =>
  h H1 e _ fun H2 e2 => ⟨l, ls, rfl, ex_l (e.trans e2) hs, List.length_pos_of_mem hm, fun n hn hal => by
    have h1 := hall n hn
    have h2 := hal m hm
    have : n = m := by omega
    subst this
    exact q H2 e2⟩
theorem ev_neXP {b : Addr} {ls : List (List Key × L2.V)} (h : EvP ta σ H (fun v H' => ∃ d kvs, v = .ref d ∧ DAt P w K H' d kvs ∧ kvs.length = ls.length ∧ ∀ p ∈ kvs, valV ls p.1 = some p.2 ∧ inB p.2 = true)) (h2 : Ev tb σ H (.ref b)) (hb : DAt P w K H b ls) : Ev (tOp (rNeX P w K) ta tb) σ H (.bl false) := fun H1 e Q q =>
  h H1 e _ fun v H2 e2 ⟨d, kvs, ev, hd, hl, hp⟩ => by
    subst ev
    exact h2 H2 (e.trans e2) _ fun H3 e3 => ⟨d, b, kvs, ls, rfl, rfl, hd.ext e3, hb.ext ((e.trans e2).trans e3), hl, hp, q H3 (e2.trans e3)⟩
theorem ev_dgxU {a : Addr} {kvs : List (List Key × L2.V)} {k : List Key} {v : L2.V} (h1 : Ev ta σ H (.ref a)) (h2 : EvU tb σ H (k.map kV)) (g : DAt P w K H a kvs) (l : valV kvs k = some v) : Ev (tDGetX P w K ta tb) σ H v := fun H1 e Q q =>
  h1 H1 e _ fun H2 e2 => h2 H2 (e.trans e2) _ fun p H3 hp e3 h3 => ⟨a, kvs, p, k, v, rfl, rfl, g.ext ((e.trans e2).trans e3), st_of h3, l, q H3 (e2.trans e3)⟩
theorem vals_same {sums : List Int} {L : Int} {ss Ts : List Stg} (h1 : RS sums L ss) (h2 : Ts.Nodup) (h3 : ∀ s, s ∈ Ts ↔ M04.Reach sums L s) : (ss.reverse.map (entV sums L)).length = (Ts.map (entV sums L)).length ∧ ∀ p ∈ ss.reverse.map (entV sums L), valV (Ts.map (entV sums L)) p.1 = some p.2 ∧ inB p.2 = true := by
  have sub : ∀ (l m : List Stg), l.Nodup → (∀ x ∈ l, x ∈ m) → l.length ≤ m.length := by
    intro l
    induction l with
    | nil => intro m _ _; exact Nat.zero_le _
    | cons x l ih =>
      intro m h hs
      have h' := List.nodup_cons.mp h
      have hx := hs x List.mem_cons_self
      have h1 := ih (m.erase x) h'.2 fun y hy => (List.mem_erase_of_ne (fun e => h'.1 (by rw [← e]; exact hy))).mpr (hs y (List.mem_cons_of_mem _ hy))
      rw [List.length_erase_of_mem hx] at h1
      have h2 := List.length_pos_of_mem hx
      simp only [List.length_cons]
      omega
  have a := sub ss Ts h1.nd fun x hx => (h3 x).mpr ((h1.iff x).mp hx)
  have b := sub Ts ss h2 fun x hx => (h1.iff x).mpr ((h3 x).mp hx)
  refine ⟨by rw [List.length_map, List.length_map, List.length_reverse]; omega, fun p hp => ?_⟩
  obtain ⟨s, hs, rfl⟩ := List.mem_map.mp hp
  exact ⟨ent_get ((h3 s).mpr ((h1.iff s).mp (List.mem_reverse.mp hs))), ovI_inB _⟩
theorem ep_values {l : Addr} {ws : List Int} {L : Nat} {E : XK} {Ts : List Stg} {t : TA} (hw : WIn K ws L l H) (h2 : Ts.Nodup) (h3 : ∀ s, s ∈ Ts ↔ M04.Reach (sumsL ws) L s) (h : EvA t σ H [.ref l, .int (L : Int)]) :
    EvP (tCall (spValues P w K) [] E t) σ H (fun v H' => ∃ d kvs, v = .ref d ∧ DAt P w K H' d kvs ∧ kvs.length = (Ts.map (entV (sumsL ws) L)).length ∧ ∀ p ∈ kvs, valV (Ts.map (entV (sumsL ws) L)) p.1 = some p.2 ∧ inB p.2 = true) :=
  ep_call h fun H1 e1 Q q => ⟨l, ws, L, rfl, hw.ext e1, fun d ss H2 hd e2 hr hda => q _ H2 e2 ⟨d, _, rfl, hda, (vals_same hr h2 h3).1, (vals_same hr h2 h3).2⟩⟩
theorem sp_ll {l Pt : Addr} {ws : List Int} {L : Nat} {v : Int} (hw : WIn K ws L l H) (hv : M04.V (sumsL ws) L (0, 0, 1) = some v) (ht : H Pt = some (TabX Pt)) : SpL (spLL P w K Pt) ([.ref l, .int (L : Int)] ++ []) H ((lensW ws L).map L2.V.int) := fun H1 e1 Q q E =>
  ⟨l, ws, L, rfl, hw.ext e1, ⟨v, hv⟩, e1 _ _ ht, fun p H2 hp e2 h2 => q p H2 hp e2 h2⟩
theorem spv_cost {l t Pt : Addr} {ws ls : List Int} {v : Int} (h1 : SqL K H l (ws.map L2.V.int)) (h2 : SqL K H t (ls.map L2.V.int)) (hl : ws.length = ls.length) (hn : ws.length ≤ 16) (ht : H Pt = some (TabX Pt)) (hw : ∀ i, i < ws.length → 0 ≤ ws.getD i 0 ∧ ws.getD i 0 ≤ 1000000) (hb : ∀ i, i < ws.length → 0 ≤ ls.getD i 0 ∧ ls.getD i 0 ≤ 20) (hv : costI ws ls = v) : SpV (spCost K Pt) ([.ref l, .ref t] ++ []) H (.int v) := fun H1 e1 Q q E =>
  ⟨l, t, ws, ls, rfl, ex_l e1 h1, ex_l e1 h2, hl, by omega, e1 _ _ ht, fun i hi => by
    obtain ⟨b1, b2⟩ := hw i hi
    have b3 := hb i hi
    unfold costF
    have b4 := Int.mul_nonneg b1 b3.1
    have b5 : ws.getD i 0 * ls.getD i 0 ≤ 1000000 * 20 := Int.mul_le_mul b2 b3.2 b3.1 (by omega)
    exact ⟨by omega, by omega, by omega, by omega⟩, fun H2 e2 => by
    have : sumF ws.length (costF ws ls) = v := by rw [← hv]; rfl
    rw [this]
    exact q H2 e2⟩
theorem el_callN {sp : Sp} {E : XK} {xs zs : List L2.V} {y : L2.V} (h1 : EvL ta σ H xs) (h2 : Ev tb σ H y) (hs : ∀ p H1, Ex H H1 → H1 p = some (.lst xs) → SpL sp ([.ref p, y] ++ []) H1 zs) : EvL (tCall sp [] E (tCons ta (tCons tb tNil))) σ H zs := fun H1 e Q q =>
  h1 H1 e _ fun p H2 hp e2 hx => h2 H2 (e.trans e2) _ fun H3 e3 => hs p H3 ((e.trans e2).trans e3) (e3 _ _ hx) H3 (Ex.refl _) Q (fun p2 H4 hp2 e4 h4 => q p2 H4 (fresh_back (e2.trans e3) hp2) ((e2.trans e3).trans e4) h4) E
theorem ep_callN {sp : Sp} {E : XK} {xs : List L2.V} {y : L2.V} {R : L2.V → Hp → Prop} (h1 : EvL ta σ H xs) (h2 : Ev tb σ H y) (hs : ∀ p H1, Ex H H1 → H1 p = some (.lst xs) → ∀ Q : VK, (∀ v H2, Ex H1 H2 → R v H2 → Q v H2) → sp ([.ref p, y] ++ []) H1 Q E) : EvP (tCall sp [] E (tCons ta (tCons tb tNil))) σ H R := fun H1 e Q q =>
  h1 H1 e _ fun p H2 hp e2 hx => h2 H2 (e.trans e2) _ fun H3 e3 => hs p H3 ((e.trans e2).trans e3) (e3 _ _ hx) Q fun v H4 e4 r => q v H4 ((e2.trans e3).trans e4) r
theorem asI_bd {F : List Nat} {L n : Nat} (hl : F.length = n) (hb : ∀ l ∈ F, 1 ≤ l ∧ l ≤ L) (hL : L ≤ 20) : ∀ i, i < n → 0 ≤ (asI F).getD i 0 ∧ (asI F).getD i 0 ≤ 20 := fun i hi => by
  rw [asI_get]
  have : F.getD i 0 ∈ F := by
    rw [List.getD_eq_getElem?_getD, List.getElem?_eq_getElem (by omega)]
    exact List.getElem_mem _
  have := hb _ this
  omega
end
end K06
set_option Elab.async false
set_option linter.all false
set_option maxRecDepth 100000
set_option maxHeartbeats 4000000
/-! {k: f(k) for k in d}, keys that are tuples. -/
namespace KC
open PySem PySem.Spec PyProof.Rows L2 StX GX Evl
theorem val_fresh {f : List Key → L2.V} : ∀ {ps : List (List Key × L2.V)} {k : List Key}, k ∉ ps.map (·.1) → valV (ps.map fun kv => (kv.1, f kv.1)) k = none
  | [], _, _ => rfl
  | p :: ps, k, h => by
    rw [List.map_cons, List.mem_cons] at h
    rw [List.map_cons, valV_neg (p := (p.1, f p.1)) (fun e => h (.inl e.symm))]
    exact val_fresh fun z => h (.inr z)
section
variable {P : Program} {w : World} {K : PySem.W.Frag} {σ : L2.St} {H : Hp} {D : Ends} {tz : TS} {td tk tv : TE}
theorem q_dcX {i j : Nat} {d : Addr} {vs : List Nat} {kvs : List (List Key × L2.V)} (f : List Key → L2.V) (h : Ev td σ H (.ref d)) (hd : DAt P w K H d kvs) (hn : kvs.length ≤ 90000) (hnd : (kvs.map (·.1)).Nodup)
    (hw : ∀ x, wipe ((wipe σ vs).set j (some x)) vs = wipe σ vs) (hk : ∀ q H1, Ex H H1 → Ev tk ((wipe σ vs).set j (some (.ref q))) H1 (.ref q))
    (he : ∀ kv ∈ kvs, ∀ q H1, Ex H H1 → SqT K H1 q (kv.1.map kV) → Ev tv ((wipe σ vs).set j (some (.ref q))) H1 (f kv.1))
    (k : ∀ p H1, H p = none → Ex H H1 → DAt P w K H1 p (kvs.map fun kv => (kv.1, f kv.1)) → tz D (σ.set i (some (.ref p))) H1) : tSeq (tAsg (tDcX P w K (iDX P w td) (gName j) tYes tk tv vs) (gName i)) tz D σ H := by
  refine h H (Ex.refl H) _ fun H1 e1 => ?_
  have hd1 := hd.ext e1
  obtain ⟨xs, o, ho, hkx⟩ := hd1
  have hl : xs.length = kvs.length := (Paired.length hkx).symm
  refine ⟨d, xs, o, rfl, ho, fun Dl hD => ⟨fun i m H' => m + i = kvs.length ∧ Ex H1 H' ∧ DAt P w K H' Dl ((kvs.take i).map fun kv => (kv.1, f kv.1)), ⟨kvs.length, by omega, Ex.new hD, ⟨[], newD, upd_same, .nil⟩⟩, ?_⟩⟩
  rintro i' m H' ⟨hm, e2, hda⟩
  by_cases hi : i' < kvs.length
  · right
    refine ⟨⟨e2 _ _ ho, by rw [List.length_map]; omega⟩, fun H5 => (m - 1) + (i' + 1) = kvs.length ∧ Ex H1 H5 ∧ DAt P w K H5 Dl ((kvs.take (i' + 1)).map fun kv => (kv.1, f kv.1)), fun H5 q => ⟨m - 1, by omega, q⟩, ?_⟩
    rintro v H5 ⟨rfl, c, hc, rfl⟩
    have hki : kvs[i']? = some kvs[i'] := List.getElem?_eq_getElem hi
    have hkc : SqT K H5 c (kvs[i'].1.map kV) := ex_t e2 (pair_at (isKeysX_of hkx) hki hc)
    have htk : kvs.take (i' + 1) = kvs.take i' ++ [kvs[i']] := (List.take_append_getElem hi).symm
    refine ⟨hw _, tt_yes (hk c H5 (e1.trans e2) H5 (Ex.refl _) _ fun H6 e6 => he _ (List.getElem_mem hi) c H5 (e1.trans e2) hkc H6 e6 _ fun H7 e7 => ?_)⟩
    have hfr : kvs[i'].1 ∉ (kvs.take i').map (·.1) := fun z => by
      have h2 := hnd
      rw [← List.take_append_drop i' kvs, List.drop_eq_getElem_cons hi, List.map_append, List.map_cons, List.nodup_append] at h2
      exact h2.2.2 _ z _ List.mem_cons_self rfl
    refine ⟨_, c, kvs[i'].1, rfl, hda.ext (e6.trans e7), ex_t (e6.trans e7) hkc, sz_lt (by rw [List.length_map, List.length_take]; omega), fun H8 d8 k8 => ⟨by omega, ex_but ((e2.trans e6).trans e7) hD k8, ?_⟩⟩
    rw [putK_new _ (val_fresh hfr)] at d8
    rw [htk, List.map_append]
    exact d8
  · left
    have hin : i' = kvs.length := by omega
    subst hin
    rw [List.take_length] at hda
    exact ⟨⟨e2 _ _ ho, by rw [List.length_map]; omega⟩, k Dl H' (fresh_back e1 hD) (e1.trans e2) hda⟩
end
end KC
set_option linter.all false
namespace M06
open M03 M04
theorem val_le {sums : List Int} {L T : Int} (hT : 0 ≤ T) (hS : ∀ j, sums.getD j 0 ≤ T) : ∀ (t : Nat) (s : Stg) (v : Int), SOk sums L s → val sums L t s = some v → v ≤ t * T
  | 0, s, v, ok, h => by
    have hi := omin_is ((chS sums L s).map (lsum fun _ => none))
    obtain ⟨c, hc, h2⟩ := List.mem_map.mp (hi.mem v h)
    have := (ch_mem ok).mp hc
    cases this with
    | stop => simp [lsum] at h2; omega
    | go => simp [lsum] at h2
  | t + 1, s, v, ok, h => by
    have hi := omin_is ((chS sums L s).map (lsum (val sums L t)))
    obtain ⟨c, hc, h2⟩ := List.mem_map.mp (hi.mem v h)
    have e : ((t + 1 : Nat) : Int) * T = t * T + T := by push_cast; rw [Int.add_mul, Int.one_mul]
    have h0 : 0 ≤ (t : Int) * T := Int.mul_nonneg (by omega) hT
    obtain ⟨a, p, nx⟩ := c
    cases nx with
    | none =>
      have := (ch_mem ok).mp hc
      cases this
      simp [lsum] at h2
      omega
    | some s' =>
      have hn := (next_of ok hc rfl).1
      have hp : p ≤ T := by
        have := (ch_mem ok).mp hc
        cases this
        exact hS _
      cases e' : val sums L t s' with
      | none => simp [lsum, e'] at h2
      | some v' =>
        have := val_le hT hS t s' v' hn e'
        simp [lsum, e'] at h2
        omega
theorem restL_le : ∀ {vs : List Int}, (∀ v ∈ vs, 0 ≤ v) → (restL vs).getD 0 0 = vs.sum ∧ ∀ j, 0 ≤ (restL vs).getD j 0 ∧ (restL vs).getD j 0 ≤ vs.sum
  | [], _ => ⟨rfl, fun j => by cases j <;> simp [restL]⟩
  | v :: vs, h => by
    obtain ⟨h1, h2⟩ := restL_le fun x hx => h x (List.mem_cons_of_mem _ hx)
    have h0 := h v List.mem_cons_self
    have e : (restL vs).headD 0 = vs.sum := by rw [← h1]; cases restL vs <;> rfl
    have e0 : (restL (v :: vs)) = (v + vs.sum) :: restL vs := by show (v + (restL vs).headD 0) :: restL vs = _; rw [e]
    rw [e0]
    have hs := h2 0
    rw [List.sum_cons]
    refine ⟨rfl, fun j => ?_⟩
    cases j with
    | zero =>
      have hs' := hs.1
      have h1' := h1
      show 0 ≤ v + vs.sum ∧ v + vs.sum ≤ v + vs.sum
      omega
    | succ j =>
      have := h2 j
      show 0 ≤ (restL vs).getD j 0 ∧ (restL vs).getD j 0 ≤ v + vs.sum
      omega
theorem perm_sum {a b : List Int} (h : a.Perm b) : a.sum = b.sum := by
  induction h with
  | nil => rfl
  | cons x _ ih => rw [List.sum_cons, List.sum_cons, ih]
  | swap x y l => simp only [List.sum_cons]; omega
  | trans _ _ a b => rw [a, b]
theorem V_le {ws : List Int} {L : Nat} (h0 : ∀ v ∈ ws, 0 ≤ v) {s : Stg} {v : Int} (ok : SOk (sumsL ws) L s) (hv : V (sumsL ws) L s = some v) : v ≤ L * ws.sum := by
  have hr := restL_le (vs := ranked ws) fun v hv => h0 v ((ranked_perm ws).mem_iff.mp hv)
  have es : (ranked ws).sum = ws.sum := by
    exact perm_sum (ranked_perm ws)
  rw [es] at hr
  have hT : 0 ≤ ws.sum := by have := hr.2 0; omega
  have h1 := val_le (sums := sumsL ws) (L := L) hT (fun j => (hr.2 j).2) _ s v ok hv
  have h2 : ((((L : Int) - s.1).toNat : Nat) : Int) * ws.sum ≤ L * ws.sum := Int.mul_le_mul_of_nonneg_right (by have := ok.d; omega) hT
  omega
end M06
set_option Elab.async false
set_option linter.all false
set_option maxRecDepth 100000
set_option maxHeartbeats 4000000
namespace K06
open PySem PySem.Spec PyProof.Rows L2 StX GX KC KQ Evl M03 M04 M01
/-- the program's own certificate -/
def certP (ws : List Int) (L : Nat) (ss : List Stg) : List (Stg × Int) := ss.reverse.map fun s => (s, (M04.V (sumsL ws) L s).getD (L * ws.sum))
def ceilV (c : Int) : L2.V → L2.V
  | .non => .int c
  | x => x
theorem rev_nodup {α : Type} {l : List α} (h : l.Nodup) : l.reverse.Nodup := by
  unfold List.Nodup at h ⊢
  rw [List.pairwise_reverse]
  exact h.imp fun z e => z e.symm
theorem certP_keys (ws : List Int) (L : Nat) (ss : List Stg) : (certP ws L ss).map (·.1) = ss.reverse := by
  unfold certP
  rw [List.map_map]
  exact List.map_id _
theorem certP_in {ws : List Int} {L : Nat} {ss : List Stg} (hL : 1 ≤ L) (hn : 1 ≤ ws.length) (hn2 : ws.length ≤ 16) (h : RS (sumsL ws) L ss) (hl : ss.length ≤ 50000) : CIn (sumsL ws) L (certP ws L ss) := by
  refine ⟨by rw [certP_keys]; exact rev_nodup h.nd, fun p hp => ?_, by unfold certP; rw [List.length_map, List.length_reverse]; exact hl⟩
  obtain ⟨s, hs, rfl⟩ := List.mem_map.mp hp
  have := ((h.iff s).mp (List.mem_reverse.mp hs)).ok (by omega) (by rw [nN_sums]; omega)
  exact ⟨this.1, by have := this.2; rw [nN_sums] at this; show s.2.2 ≤ 16; omega⟩
section
variable {P : Program} {w : World} {K : PySem.W.Frag} {mg : Str → Option Value} {base : Heap}
theorem ok_is_shown {f PC P1 P2 P3 P4 tf : Addr} {fd : FuncData} {k : Nat} (T : GF K mg tf) (F : Fun K "is_shown" "is_shown" s_is_shown f fd) (B : Bs mg) (C_keeps_limit : Cal P w K mg base "keeps_limit" 9 ["lengths", "limit"] (spKeeps K P1 P2 P3)) (C_cost : Cal P w K mg base "cost" 6 ["weights", "lengths"] (spCost K PC))
    (C_is_sound : Cal P w K mg base "is_sound" 8 ["weights", "limit", "certificate"] (spSound P w K P4)) : FnOk P w K mg base CX0 (k + 10) f fd ["weights", "limit", "lengths", "certificate"] (spShown P w K PC P1 P2 P3 P4) := by
  refine F.ok sc_is_shown (fun vs H Q E h => ?_) (fun cdv A outer s H vs Q E hr h => ?_)
  · obtain ⟨l, t, dc, ws, ls, L, ps, rfl, _⟩ := h
    rfl
  · obtain ⟨l, t, dc, ws, ls, L, ps, rfl, hw, ht, hln, hwb, hd, hc, tc, t1, t2, t3, t4, q⟩ := h
    have hu := lt64 hr.units
    refine ⟨_, (pss_cons (ps_if (PW.pt (pw_or (pt_cmpR op_ne (pe_callB call_len_seq (by rfl) B.len PySem.boot_len (pa_cons (pv 2) pa_nil)) (pe_callB call_len_seq (by rfl) B.len PySem.boot_len (pa_cons (pv 0) pa_nil)) (nomark _)) (pw_or1 (pt_not (pt_val (pe_callC C_keeps_limit (hr.mono (by omega)) (by rfl) (pa_cons (pv 2) (pa_cons (pv 1) pa_nil)))))))) (pss_one (ps_ret pe_bl)) pss_nil)
      (pss_cons (ps_if (PW.pt (pw_or (pt_cmp (pc_dnotinX (P := P) (w := w) (K := K) ⟨rfl, rfl, rfl⟩ hu (pe_glob (v := (.ref tf)) (by rfl) T.g_FIRST rfl) (pv 3))) (pw_or1 (pt_cmpR op_ne (pe_dgx (P := P) (w := w) (K := K) ⟨rfl, rfl, rfl⟩ hu (pv 3) (pe_glob (v := (.ref tf)) (by rfl) T.g_FIRST rfl) (fun _ _ => rfl)) (pe_callC C_cost (hr.mono (by omega)) (by rfl) (pa_cons (pv 0) (pa_cons (pv 2) pa_nil))) (nomark _))))) (pss_one (ps_ret pe_bl)) pss_nil)
      (pss_one (ps_ret (pe_callC C_is_sound (hr.mono (by omega)) (by rfl) (pa_cons (pv 0) (pa_cons (pv 1) (pa_cons (pv 3) pa_nil)))))))), ?_⟩
    unfold shownB at q
    have n2 := hw.n2
    have l2 := hw.l2
    refine q_when (et_or (et_test (ev_ne (ev_len (ev_var rfl) ht) (ev_len (ev_var rfl) hw.sq))) fun _ => et_not (et_B (ev_call (ea2 (ev_var rfl) (ev_var rfl)) fun H1 e1 Q q E => ⟨t, ls, L, rfl, ex_l e1 ht, by omega, hln, e1 _ _ t1, e1 _ _ t2, e1 _ _ t3, q⟩))) (fun hb H1 e1 => ?_) (fun hb H1 e1 => ?_)
    · have : (decide (ls.length = ws.length) && (keepB ls L && (decide (certOf ps (0, 0, 1) = some (costI ws ls)) && soundB (sumsL ws) L ps))) = false := by
        rw [List.length_map, List.length_map, Bool.or_eq_true] at hb
        rcases hb with hb | hb
        · have h1 : ¬ ls.length = ws.length := fun z => by rw [z] at hb; simp at hb
          rw [decide_eq_false h1]
          rfl
        · have : keepB ls L = false := by cases e : keepB ls L with
            | false => rfl
            | true => rw [e] at hb; cases hb
          rw [this]
          cases decide (ls.length = ws.length) <;> rfl
      rw [this] at q
      exact s_ret ev_c fun H2 e2 => q H2 (e1.trans e2)
    · rw [List.length_map, List.length_map, Bool.or_eq_false_iff] at hb
      have hlen : ls.length = ws.length := by
        have := hb.1
        by_cases z : ls.length = ws.length
        · exact z
        · exfalso
          have z2 : ¬ (ls.length : Int) = (ws.length : Int) := by omega
          rw [decide_eq_false z2] at this
          cases this
      have hk : keepB ls L = true := by
        cases e : keepB ls L with
        | true => rfl
        | false => have := hb.2; rw [e] at this; cases this
      rw [hk, decide_eq_true hlen, Bool.true_and, Bool.true_and] at q
      have hlb : ∀ i, i < ws.length → 0 ≤ ls.getD i 0 ∧ ls.getD i 0 ≤ 20 := fun i hi => by
        unfold keepB at hk
        rw [Bool.and_eq_true] at hk
        have := List.all_eq_true.mp hk.1 (ls.getD i 0) (by rw [List.getD_eq_getElem?_getD, List.getElem?_eq_getElem (by omega)]; exact List.getElem_mem _)
        rw [Bool.and_eq_true, decide_eq_true_eq, decide_eq_true_eq] at this
        omega
      cases hf : certOf ps (0, 0, 1) with
      | none =>
        rw [hf] at q
        refine q_when (b := true) (et_is (et_or (a := true) (b := true) (et_is (et_B (ev_dnotinX ev_c (ev_var rfl) (hd.ext e1) (k := keyS (0, 0, 1)) (T.st _))) (by rw [cert_val, hf]; rfl)) (fun z => by cases z)) rfl) (fun _ H2 e2 => ?_) (fun z => by cases z)
        exact s_ret ev_c fun H3 e3 => q H3 ((e1.trans e2).trans e3)
      | some v =>
        rw [hf] at q
        have hv : valV (ps.map entC) (keyS (0, 0, 1)) = some (.int v) := by rw [cert_val, hf]; rfl
        refine q_when (b := !decide (v = costI ws ls)) (et_is (et_or (a := false) (b := !decide (v = costI ws ls)) (et_is (et_B (ev_dnotinX ev_c (ev_var rfl) (hd.ext e1) (k := keyS (0, 0, 1)) (T.st _))) (by rw [cert_val, hf]; rfl)) fun _ => et_test (ev_ne (ev_dgx (ev_var rfl) ev_c (hd.ext e1) (k := keyS (0, 0, 1)) (T.st _) hv) (ev_call (ea2 (ev_var rfl) (ev_var rfl)) (spv_cost (ex_l e1 hw.sq) (ex_l e1 ht) hlen.symm (by omega) (e1 _ _ tc) hwb hlb rfl)))) rfl) (fun hb H2 e2 => ?_) (fun hb H2 e2 => ?_)
        · have hne : ¬ v = costI ws ls := by simpa using hb
          have : (decide (some v = some (costI ws ls)) && soundB (sumsL ws) L ps) = false := by
            rw [decide_eq_false (fun z => hne (Option.some.inj z))]
            rfl
          rw [this] at q
          exact s_ret ev_c fun H3 e3 => q H3 ((e1.trans e2).trans e3)
        · have he : v = costI ws ls := by simpa using hb
          rw [he, decide_eq_true rfl, Bool.true_and] at q
          exact s_ret (ev_call (ea3 (ev_var rfl) (ev_var rfl) (ev_var rfl)) fun H3 e3 Q q E => ⟨l, dc, ws, L, ps, rfl, hw.ext ((e1.trans e2).trans e3), hd.ext ((e1.trans e2).trans e3), hc, ((e1.trans e2).trans e3) _ _ t4, q⟩) fun H3 e3 => q H3 ((e1.trans e2).trans e3)
def spMake (P : Program) (w : World) (K : PySem.W.Frag) (Pt : Addr) : Sp := fun vs H Q _ => ∃ (l : Addr) (ws : List Int) (L : Nat), vs = [.ref l, .int (L : Int)] ∧ WIn K ws L l H ∧ (∃ v, M04.V (sumsL ws) L (0, 0, 1) = some v) ∧ H Pt = some (TabX Pt) ∧
  ∀ t p d ss H2, H p = none → H t = none → Ex H H2 → RS (sumsL ws) L ss → ss.length ≤ 50000 → H2 p = some (.lst ((lensW ws L).map L2.V.int)) → DAt P w K H2 d ((certP ws L ss).map entC) → H2 t = some (.tup [.ref p, .ref d]) → Q (.ref t) H2
theorem ok_make_certificate {f Pt : Addr} {fd : FuncData} {k : Nat} (F : Fun K "make_certificate" "make_certificate" s_make_certificate f fd) (B : Bs mg) (C_values : Cal P w K mg base "values" 4 ["weights", "limit"] (spValues P w K)) (C_least_lengths : Cal P w K mg base "least_lengths" 8 ["weights", "limit"] (spLL P w K Pt)) :
    FnOk P w K mg base CX0 (k + 9) f fd ["weights", "limit"] (spMake P w K Pt) := by
  refine F.ok sc_make_certificate (fun vs H Q E h => ?_) (fun cdv A outer s H vs Q E hr h => ?_)
  · obtain ⟨l, ws, L, rfl, _⟩ := h
    rfl
  · obtain ⟨l, ws, L, rfl, hw, ⟨v0, hv0⟩, tt, q⟩ := h
    have hu := lt64 hr.units
    refine ⟨_, (pss_cons (ps_set (i := 2) sc_make_certificate.nd rfl (Or.inr rfl) (pe_op op_mul (pv 1) (pe_callB (cr_sum rfl) (by rfl) B.sum (by decide +kernel) (pa_cons (pv 0) pa_nil))))
      (pss_cons (ps_set (i := 3) sc_make_certificate.nd rfl (Or.inr rfl) (pe_callC C_values (hr.mono (by omega)) (by rfl) (pa_cons (pv 0) (pa_cons (pv 1) pa_nil))))
      (pss_cons (ps_setDcX (P := P) (w := w) (K := K) (i := 4) ⟨rfl, rfl, rfl⟩ (Nat.lt_of_le_of_lt (Nat.le_add_right _ _) hu) rfl sc_make_certificate.nd rfl rfl (sw_dict rfl rfl rfl (by decide +kernel)) (pi_dX (P := P) (w := w) (K := K) ⟨rfl, rfl, rfl⟩ (pv 3)) (blkOk_by (own := [("stage", 5)]) (N := ["weights", "limit", "ceiling", "known", "certificate", "stage"]) (sc := defScope s_make_certificate) (by decide +kernel)) (fun _ _ _ _ _ => (pg_name (i := 5) sc_make_certificate.nd rfl (Or.inl rfl))) (fun _ _ _ _ _ => pts_nil) (fun _ _ _ _ _ => (pv 5)) (fun _ _ _ _ _ => (pe_ifExp (pt_cmpR op_isN (pe_dgx (P := P) (w := w) (K := K) ⟨rfl, rfl, rfl⟩ hu (pv 3) (pv 5) (fun _ _ => rfl)) pe_non (nomark _)) (pv 2) (pe_dgx (P := P) (w := w) (K := K) ⟨rfl, rfl, rfl⟩ hu (pv 3) (pv 5) (fun _ _ => rfl)))))
      (pss_one (ps_ret (pe_tup (pa_cons (pe_callC C_least_lengths (hr.mono (by omega)) (by rfl) (pa_cons (pv 0) (pa_cons (pv 1) pa_nil))) (pa_cons (pv 4) pa_nil)))))))), ?_⟩
    have l2 := hw.l2
    refine q_asg (v := .int (L * ws.sum)) (ev_op (ev_var rfl) (ev_sumLa (ev_var rfl) hw.sq) (rv_mul (by omega))) fun H1 e1 => ?_
    refine q_asgP (ep_call (R := fun v H2 => ∃ d ss, v = .ref d ∧ RS (sumsL ws) L ss ∧ ss.length ≤ 50000 ∧ DAt P w K H2 d (ss.reverse.map (entV (sumsL ws) L))) (ea2 (ev_var rfl) (ev_var rfl)) fun H2 e2 Q q => ⟨l, ws, L, rfl, hw.ext (e1.trans e2), fun d ss H3 hd e3 hr hda => q _ H3 e3 ⟨d, ss, rfl, hr, Nat.le_trans (few (by have := hw.l1; omega) (by omega) (by rw [nN_sums]; have := hw.n1; omega) (by rw [nN_sums]; have := hw.n2; omega) hr.nd fun s hs => (hr.iff s).mp hs) (by decide), hda⟩⟩) fun v H2 e2 ⟨d, ss, ev, hrs, hsl, hda⟩ => ?_
    subst ev
    have e12 := e1.trans e2
    have hkeys : (ss.reverse.map (entV (sumsL ws) L)).map (·.1) = ss.reverse.map keyS := by rw [List.map_map]; rfl
    have hnd : ((ss.reverse.map (entV (sumsL ws) L)).map (·.1)).Nodup := by
      rw [hkeys]
      unfold List.Nodup
      rw [List.pairwise_map]
      exact (rev_nodup hrs.nd).imp fun z e => z (keyS_inj e)
    refine q_dcX (fun k => .int ((M04.V (sumsL ws) L (stOf k)).getD (L * ws.sum))) (ev_var rfl) hda (by rw [List.length_map, List.length_reverse]; omega) hnd (fun x => rfl) (fun b H3 e3 => ev_var rfl) (fun kv hkv b H3 e3 hb => ?_) fun p H3 hp e3 hp3 => ?_
    · obtain ⟨s, hs, rfl⟩ := List.mem_map.mp hkv
      have hv : valV (ss.reverse.map (entV (sumsL ws) L)) (keyS s) = some (ovI (M04.V (sumsL ws) L s)) := ent_get hs
      have hb : SqT K H3 b ((keyS s).map kV) := hb
      show Ev _ _ H3 (.int ((M04.V (sumsL ws) L s).getD (L * ws.sum)))
      refine ev_if (b := decide (ovI (M04.V (sumsL ws) L s) = .non)) (et_test (ev_isN (ev_dgx (ev_var rfl) (ev_var rfl) (hda.ext e3) hb hv) ev_c)) (fun hn => ?_) (fun hn => ?_)
      · refine ev_is (ev_var rfl) ?_
        cases e : M04.V (sumsL ws) L s with
        | none => rfl
        | some v => rw [e] at hn; simp [ovI] at hn
      · refine ev_is (ev_dgx (ev_var rfl) (ev_var rfl) (hda.ext e3) hb hv) ?_
        cases e : M04.V (sumsL ws) L s with
        | none => rw [e] at hn; simp [ovI] at hn
        | some v => rfl
    · have ec : (ss.reverse.map (entV (sumsL ws) L)).map (fun kv => (kv.1, L2.V.int ((M04.V (sumsL ws) L (stOf kv.1)).getD (L * ws.sum)))) = (certP ws L ss).map entC := by
        unfold certP
        rw [List.map_map, List.map_map]
        rfl
      rw [ec] at hp3
      refine s_retLT (el_call (ea2 (ev_var rfl) (ev_var rfl)) (sp_ll (hw.ext (e12.trans e3)) hv0 ((e12.trans e3) _ _ tt))) (fun H4 e4 => ev_var rfl) fun b t H4 hb ht e4 h4 h5 => q t b p ss H4 (fresh_back (e12.trans e3) hb) (fresh_back (e12.trans e3) ht) ((e12.trans e3).trans e4) hrs hsl h4 (hp3.ext e4) h5
end
end K06
set_option Elab.async false
set_option linter.all false
set_option maxRecDepth 100000
set_option maxHeartbeats 4000000
namespace K06
open PySem PySem.Spec PyProof.Rows L2 StX GX KC KQ Evl M03 M04 M01
def lexS (a b : Stg × Int) : Prop := HT.lexLt [b.1.1, b.1.2.1, b.1.2.2] [a.1.1, a.1.2.1, a.1.2.2] = false
theorem lex_anti {a b : Stg × Int} (h1 : lexS a b) (h2 : lexS b a) : a.1 = b.1 := by
  obtain ⟨⟨a1, a2, a3⟩, av⟩ := a
  obtain ⟨⟨b1, b2, b3⟩, bv⟩ := b
  unfold lexS at h1 h2
  simp only [HT.lexLt_cons, HT.lexLt_nil_nil] at h1 h2
  have e1 : a1 = b1 := by
    by_cases e : a1 = b1
    · exact e
    · rw [if_neg (fun z => e z.symm)] at h1
      rw [if_neg e] at h2
      have := of_decide_eq_false h1
      have := of_decide_eq_false h2
      omega
  subst e1
  rw [if_pos rfl] at h1 h2
  have e2 : a2 = b2 := by
    by_cases e : a2 = b2
    · exact e
    · rw [if_neg (fun z => e z.symm)] at h1
      rw [if_neg e] at h2
      have := of_decide_eq_false h1
      have := of_decide_eq_false h2
      omega
  subst e2
  rw [if_pos rfl] at h1 h2
  have e3 : a3 = b3 := by
    by_cases e : a3 = b3
    · exact e
    · rw [if_neg (fun z => e z.symm)] at h1
      rw [if_neg e] at h2
      have := of_decide_eq_false h1
      have := of_decide_eq_false h2
      omega
  subst e3
  rfl
theorem key_one {ps : List (Stg × Int)} (nd : (ps.map (·.1)).Nodup) {a b : Stg × Int} (ha : a ∈ ps) (hb : b ∈ ps) (e : a.1 = b.1) : a = b := by
  have h1 := cert_of_mem nd a ha
  have h2 := cert_of_mem nd b hb
  rw [e, h2] at h1
  have := Option.some.inj h1
  exact Prod.ext e this.symm
/-- the entries in the order of their stages -/
structure Sorted (ps W : List (Stg × Int)) : Prop where
  perm : W.Perm ps
  asc : W.Pairwise lexS
theorem Sorted.eq {ps W W2 : List (Stg × Int)} (nd : (ps.map (·.1)).Nodup) (h : Sorted ps W) (h2 : Sorted ps W2) : W = W2 :=
  List.Perm.eq_of_pairwise (le := lexS) (fun a b ha hb z1 z2 => key_one nd (h.perm.mem_iff.mp ha) (h2.perm.mem_iff.mp hb) (lex_anti z1 z2)) h.asc h2.asc (h.perm.trans h2.perm.symm)
def RSc (K : PySem.W.Frag) (H : Hp) (a : Addr) (p : Stg × Int) : Prop := SqT K H a (stV p.1)
theorem perm_pairC {R : Addr → Stg × Int → Prop} {cs bs : List Addr} (h : cs.Perm bs) : ∀ {Fs : List (Stg × Int)}, Paired R bs Fs → ∃ W, Paired R cs W ∧ W.Perm Fs := by
  induction h with
  | nil => intro Fs h; cases h; exact ⟨[], .nil, .nil⟩
  | cons x _ ih =>
    intro Fs h
    cases h with
    | cons a r =>
      obtain ⟨W, h1, h2⟩ := ih r
      exact ⟨_ :: W, .cons a h1, h2.cons _⟩
  | swap x y l =>
    intro Fs h
    cases h with
    | cons a r => cases r with
      | cons b r => exact ⟨_, .cons b (.cons a r), .swap ..⟩
  | trans _ _ ih1 ih2 =>
    intro Fs h
    obtain ⟨W, h1, h2⟩ := ih2 h
    obtain ⟨W2, h3, h4⟩ := ih1 h1
    exact ⟨W2, h3, h4.trans h2⟩
section
variable {P : Program} {w : World} {K : PySem.W.Frag} {mg : Str → Option Value} {base : Heap}
theorem isKeys_pairC {H : Hp} : ∀ {Fs : List (Stg × Int)} {bs : List Addr}, IsKeysX K H (Fs.map entC) bs → Paired (RSc K H) bs Fs
  | [], _, h => by unfold IsKeysX at h; cases h; exact .nil
  | s :: Fs, _, h => by
    unfold IsKeysX at h
    cases h with
    | cons a r => exact .cons a (isKeys_pairC r)
theorem pair_g {g : Addr → List Int} {H : Hp} : ∀ {Fs : List (Stg × Int)} {bs : List Addr}, Paired (RSc K H) bs Fs → (∀ (i : Nat) (kv : List Key × L2.V) (b : Addr), (Fs.map entC)[i]? = some kv → bs[i]? = some b → g b = keyInts kv.1) → Paired (fun b p => RSc K H b p ∧ g b = [p.1.1, p.1.2.1, p.1.2.2]) bs Fs
  | [], _, h, _ => by cases h; exact .nil
  | s :: Fs, _, h, hg => by
    cases h with
    | cons a r => exact .cons ⟨a, hg 0 (entC s) _ rfl rfl⟩ (pair_g r fun i kv b h1 h2 => hg (i + 1) kv b (by simpa using h1) (by simpa using h2))
theorem asc_of {g : Addr → List Int} {R : Addr → Stg × Int → Prop} : ∀ {W : List (Stg × Int)} {cs : List Addr}, Paired (fun b p => R b p ∧ g b = [p.1.1, p.1.2.1, p.1.2.2]) cs W → cs.Pairwise (fun a b => HT.lexLt (g b) (g a) = false) → W.Pairwise lexS
  | [], _, _, _ => .nil
  | p :: W, _, h, hp => by
    cases h with
    | cons a r =>
      rw [List.pairwise_cons] at hp ⊢
      refine ⟨fun q hq => ?_, asc_of r hp.2⟩
      obtain ⟨i, hi, rfl⟩ := List.mem_iff_getElem.mp hq
      have hl := Paired.length r
      have hb := pair_at r (i := i) (List.getElem?_eq_getElem (by omega)) (List.getElem?_eq_getElem hi)
      have := hp.1 _ (List.getElem_mem (l := _) (n := i) (by omega))
      rw [hb.2, a.2] at this
      exact this
theorem ep_sorted {σ : L2.St} {H : Hp} {td : TE} {d : Addr} {ps : List (Stg × Int)} (h : Ev td σ H (.ref d)) (hd : DAt P w K H d (ps.map entC)) : EvP (tCB (rSortX P w K) (tCons td tNil)) σ H (fun v H1 => ∃ p cs W, v = .ref p ∧ H p = none ∧ H1 p = some (.lst (cs.map L2.V.ref)) ∧ Paired (RSc K H1) cs W ∧ Sorted ps W) := fun H1 e Q q =>
  h H1 e _ fun H2 e2 => ⟨d, ps.map entC, rfl, hd.ext (e.trans e2), fun kv hk => by
    obtain ⟨s, _, rfl⟩ := List.mem_map.mp hk
    exact ⟨_, _, _, rfl⟩, fun p bs cs hp hb hc ⟨g, hg1, hg2⟩ => by
    have hpair := pair_g (isKeys_pairC hb) hg1
    obtain ⟨W, h1, h2⟩ := perm_pairC hc hpair
    exact q _ _ (e2.trans (Ex.new hp)) ⟨p, cs, W, rfl, fresh_back (e.trans e2) hp, upd_same, Paired.mapP h1 fun b s z => ex_t (Ex.new hp) z.1, h2, asc_of h1 hg2⟩⟩
end
/-! ### another certificate -/
def ovC (c : Int) (L : Int) (at_ : Stg) (p : Stg × Int) : Int :=
  if p.1 = at_ ∧ c % 6 = 0 then p.2 + 1 + c / 100 % 5 else if p.1 = at_ ∧ c % 6 = 1 then p.2 - 1 - c / 100 % 5 else if c % 6 = 2 ∧ p.1.1 > c / 100 % (L + 1) then p.2 - 1 else p.2
def atC (c : Int) (W : List (Stg × Int)) : Stg := (W.getD (c / 6 % (W.length : Int)).toNat ((0, 0, 0), 0)).1
def putC : List (Stg × Int) → Stg → Int → List (Stg × Int)
  | [], s, v => [(s, v)]
  | p :: ps, s, v => if p.1 = s then (s, v) :: ps else p :: putC ps s v
def newC (c L n : Int) : Stg := (c / 100 % (L + 1), c / 1000 % n, 1 + c / 10000 % n)
def otherC (c : Int) (L n : Int) (W : List (Stg × Int)) : List (Stg × Int) :=
  if c % 6 = 3 then W.filter fun p => !decide (p.1 = atC c W) else
    if c % 6 = 4 then putC (W.map fun p => (p.1, ovC c L (atC c W) p)) (newC c L n) (0 - c / 7 % 50) else W.map fun p => (p.1, ovC c L (atC c W) p)
theorem putC_is (s : Stg) (v : Int) : ∀ ps : List (Stg × Int), (ps.map (·.1)).Nodup → putK (ps.map entC) (keyS s) (.int v) = (putC ps s v).map entC
  | [], _ => rfl
  | p :: ps, h => by
    rw [List.map_cons, List.nodup_cons] at h
    have ih := putC_is s v ps h.2
    by_cases e : p.1 = s
    · have hn : ∀ q ∈ ps, ¬ q.1 = s := fun q hq z => h.1 (List.mem_map.mpr ⟨q, hq, by rw [z, e]⟩)
      unfold putC
      rw [if_pos e]
      unfold putK
      have ha : ((entC p :: ps.map entC).any fun kv => decide (kv.1 = keyS s)) = true := by
        rw [List.any_cons]
        have : decide ((entC p).1 = keyS s) = true := decide_eq_true (by show keyS p.1 = keyS s; rw [e])
        rw [this]
        rfl
      rw [List.map_cons, if_pos ha, List.map_cons, List.map_cons]
      congr 1
      · rw [if_pos (by show keyS p.1 = keyS s; rw [e])]
        show (keyS p.1, _) = (keyS s, _)
        rw [e]
      · rw [List.map_map]
        refine List.map_congr_left fun q hq => ?_
        show (if keyS q.1 = keyS s then _ else _) = _
        rw [if_neg fun z => hn q hq (keyS_inj z)]
    · unfold putC
      rw [if_neg e, List.map_cons, List.map_cons, ← ih]
      unfold putK
      have hd : decide ((entC p).1 = keyS s) = false := decide_eq_false fun z => e (keyS_inj z)
      rw [List.any_cons, hd, Bool.false_or]
      by_cases q : (ps.map entC).any (fun kv => decide (kv.1 = keyS s)) = true
      · rw [if_pos q, if_pos q, List.map_cons, if_neg (show ¬ (entC p).1 = keyS s from fun z => e (keyS_inj z))]
      · rw [if_neg q, if_neg q, List.cons_append]
theorem putC_keys (s : Stg) (v : Int) : ∀ ps : List (Stg × Int), (∀ x ∈ (putC ps s v).map (·.1), x = s ∨ x ∈ ps.map (·.1)) ∧ ((ps.map (·.1)).Nodup → ((putC ps s v).map (·.1)).Nodup) ∧ (putC ps s v).length ≤ ps.length + 1
  | [] => ⟨fun x hx => by simpa [putC] using hx, fun _ => by simp [putC], by simp [putC]⟩
  | p :: ps => by
    obtain ⟨h1, h2, h3⟩ := putC_keys s v ps
    unfold putC
    by_cases e : p.1 = s
    · rw [if_pos e]
      subst e
      exact ⟨fun x hx => .inr (by simpa using hx), fun h => by simpa using h, by simp⟩
    · rw [if_neg e]
      refine ⟨fun x hx => ?_, fun h => ?_, by simp only [List.length_cons]; omega⟩
      · rw [List.map_cons, List.mem_cons] at hx ⊢
        rcases hx with z | z
        · exact .inr (.inl z)
        · rcases h1 x z with y | y
          · exact .inl y
          · exact .inr (.inr y)
      · rw [List.map_cons, List.nodup_cons] at h ⊢
        refine ⟨fun z => ?_, h2 h.2⟩
        rcases h1 _ z with y | y
        · exact e y
        · exact h.1 y
theorem otherC_in {sums : List Int} {L n : Nat} {c : Int} {ps W : List (Stg × Int)} (hL : 1 ≤ L) (hn : 1 ≤ n) (hn16 : n ≤ 16) (hs : nN sums = n) (h : CIn sums L ps) (hl : ps.length ≤ 20000) (hw : Sorted ps W) : CIn sums L (otherC c L n W) := by
  have hW : (W.map (·.1)).Nodup := ((hw.perm.map (·.1)).nodup_iff).mpr h.nd
  have hWl : W.length ≤ 20000 := by rw [hw.perm.length_eq]; exact hl
  have hok : ∀ p ∈ W, SOk sums L p.1 ∧ p.1.2.2 ≤ 16 := fun p hp => h.ok p (hw.perm.mem_iff.mp hp)
  have hm : CIn sums L (W.map fun p => (p.1, ovC c L (atC c W) p)) := by
    refine ⟨by rw [List.map_map]; exact hW, fun p hp => ?_, by rw [List.length_map]; omega⟩
    obtain ⟨q, hq, rfl⟩ := List.mem_map.mp hp
    exact hok q hq
  unfold otherC
  by_cases h3 : c % 6 = 3
  · rw [if_pos h3]
    refine ⟨?_, fun p hp => hok p (List.mem_filter.mp hp).1, Nat.le_trans (List.length_filter_le _ _) (by omega)⟩
    exact hW.sublist ((List.filter_sublist).map _)
  · rw [if_neg h3]
    by_cases h4 : c % 6 = 4
    · rw [if_pos h4]
      have hk := putC_keys (newC c L n) (0 - c / 7 % 50) (W.map fun p => (p.1, ovC c L (atC c W) p))
      refine ⟨hk.2.1 hm.nd, fun p hp => ?_, by have := hk.2.2; rw [List.length_map] at this; omega⟩
      rcases hk.1 p.1 (List.mem_map.mpr ⟨p, hp, rfl⟩) with z | z
      · rw [z]
        unfold newC
        have a1 := Int.emod_nonneg (c / 100) (show (L : Int) + 1 ≠ 0 by omega)
        have a2 := Int.emod_lt_of_pos (c / 100) (show (0 : Int) < (L : Int) + 1 by omega)
        have b1 := Int.emod_nonneg (c / 1000) (show (n : Int) ≠ 0 by omega)
        have b2 := Int.emod_lt_of_pos (c / 1000) (show (0 : Int) < (n : Int) by omega)
        have c1 := Int.emod_nonneg (c / 10000) (show (n : Int) ≠ 0 by omega)
        have c2 := Int.emod_lt_of_pos (c / 10000) (show (0 : Int) < (n : Int) by omega)
        unfold nN at hs
        refine ⟨⟨by omega, ⟨a1, by show c / 100 % ((L : Int) + 1) ≤ L; omega⟩, ⟨b1, by show c / 1000 % (n : Int) < _; omega⟩, by show 1 ≤ 1 + c / 10000 % (n : Int); omega⟩, by show 1 + c / 10000 % (n : Int) ≤ 16; omega⟩
      · obtain ⟨q, hq, e⟩ := List.mem_map.mp z
        rw [← e]
        exact hm.ok q hq
    · rw [if_neg h4]
      exact hm
end K06
set_option Elab.async false
set_option linter.all false
set_option maxRecDepth 100000
set_option maxHeartbeats 4000000
namespace K06
open PySem PySem.Spec PyProof.Rows L2 StX GX KC KQ Evl M03 M04 M01
theorem eqv_st (a b : Stg) : PyData.eqv (stD a) (stD b) = decide (a = b) := by
  obtain ⟨a1, a2, a3⟩ := a
  obtain ⟨b1, b2, b3⟩ := b
  unfold stD
  simp only [PyData.eqv, PyData.eqvAll, Bool.and_true]
  by_cases e1 : a1 = b1 <;> by_cases e2 : a2 = b2 <;> by_cases e3 : a3 = b3 <;> simp [e1, e2, e3]
theorem putK_last {kvs : List (List Key × L2.V)} {k : List Key} {v v' : L2.V} (h : valV kvs k = none) : putK (kvs ++ [(k, v)]) k v' = kvs ++ [(k, v')] := by
  have hn : ∀ kv ∈ kvs, ¬ kv.1 = k := by
    intro kv hkv e
    have := valV_any k kvs
    rw [h] at this
    have h2 : (kvs.any fun kv => decide (kv.1 = k)) = true := List.any_eq_true.mpr ⟨kv, hkv, decide_eq_true e⟩
    rw [h2] at this
    cases this
  unfold putK
  have ha : ((kvs ++ [(k, v)]).any fun kv => decide (kv.1 = k)) = true := by simp
  rw [if_pos ha, List.map_append]
  congr 1
  · conv => rhs; rw [← List.map_id kvs]
    refine List.map_congr_left fun kv hkv => ?_
    rw [if_neg (hn kv hkv)]
    rfl
  · simp
theorem cert_none {ps : List (Stg × Int)} {s : Stg} (h : s ∉ ps.map (·.1)) : valV (ps.map entC) (keyS s) = none := by
  rw [cert_val]
  have : certOf ps s = none := by
    unfold certOf
    rw [List.find?_eq_none.mpr fun p hp => by simpa using fun e : p.1 = s => h (List.mem_map.mpr ⟨p, hp, e⟩)]
    rfl
  rw [this]
  rfl
theorem q_mid {t : TT} {s1 tz : TS} {b : Bool} {σ : L2.St} {H : Hp} {D : Ends} (Mid : L2.St → Hp → Prop) (h : EvT t σ H b) (h1 : b = true → ∀ H1, Ex H H1 → ∀ D' : Ends, (∀ σ' H', Mid σ' H' → D'.nx σ' H') → s1 D' σ H1) (h2 : b = false → ∀ H1, Ex H H1 → Mid σ H1) (h3 : ∀ σ' H', Mid σ' H' → tz D σ' H') : tSeq (tIfS t s1 tNext) tz D σ H :=
  q_when h (fun hb H1 e1 => h1 hb H1 e1 _ fun σ' H' m => h3 σ' H' m) (fun hb H1 e1 => h3 _ _ (h2 hb H1 e1))
theorem s_mid {t : TT} {s1 : TS} {b : Bool} {σ : L2.St} {H : Hp} {D : Ends} (Mid : L2.St → Hp → Prop) (h : EvT t σ H b) (h1 : b = true → ∀ H1, Ex H H1 → ∀ D' : Ends, (∀ σ' H', Mid σ' H' → D'.nx σ' H') → s1 D' σ H1) (h2 : b = false → ∀ H1, Ex H H1 → Mid σ H1) (h3 : ∀ σ' H', Mid σ' H' → D.nx σ' H') : tIfS t s1 tNext D σ H :=
  s_when h (fun hb H1 e1 => h1 hb H1 e1 _ h3) (fun hb H1 e1 => h3 _ _ (h2 hb H1 e1))
section
variable {P : Program} {w : World} {K : PySem.W.Frag} {mg : Str → Option Value} {base : Heap}
theorem s_dputU {tv td ty : TE} {σ : L2.St} {H : Hp} {D : Ends} {v : L2.V} {a : Addr} {kvs : List (List Key × L2.V)} {k : List Key} (h : Ev tv σ H v) (h1 : Ev td σ H (.ref a)) (h2 : EvU ty σ H (k.map kV)) (g : DAt P w K H a kvs) (hl : kvs.length < 100000)
    (q : ∀ H1 H2, Ex H H1 → DAt P w K H2 a (putK kvs k v) → (∀ c, c ≠ a → H2 c = H1 c) → D.nx σ H2) : sDPutX P w K td ty tv D σ H :=
  h H (Ex.refl H) _ fun H1 e1 => h1 H1 e1 _ fun H2 e2 => h2 H2 (e1.trans e2) _ fun p H3 hp e3 h3 => ⟨a, kvs, p, k, rfl, rfl, g.ext ((e1.trans e2).trans e3), st_of h3, sz_lt hl, fun H4 hd hk => q H3 H4 ((e1.trans e2).trans e3) hd hk⟩
def spOther (P : Program) (w : World) (K : PySem.W.Frag) : Sp := fun vs H Q _ => ∃ (dc : Addr) (ps : List (Stg × Int)) (c : Int) (n L : Nat), vs = [.ref dc, .int c, .int (n : Int), .int (L : Int)] ∧ DAt P w K H dc (ps.map entC) ∧ (ps.map (·.1)).Nodup ∧ ps ≠ [] ∧ ps.length ≤ 20000 ∧ 1 ≤ n ∧ n ≤ 16 ∧ L ≤ 16 ∧
  ∀ d W H2, H d = none → Ex H H2 → Sorted ps W → DAt P w K H2 d ((otherC c L n W).map entC) → Q (.ref d) H2
theorem ok_law_other {f : Addr} {fd : FuncData} {k : Nat} (F : Fun K "_law_other" "_law_other" s_law_other f fd) (B : Bs mg) : FnOk P w K mg base CX0 (k + 1) f fd ["certificate", "cell", "many", "limit"] (spOther P w K) := by
  refine F.ok sc_law_other (fun vs H Q E h => ?_) (fun cdv A outer s H vs Q E hr h => ?_)
  · obtain ⟨dc, ps, c, n, L, rfl, _⟩ := h
    rfl
  · obtain ⟨dc, ps, c, n, L, rfl, hd, hnd, hne, hpl, hn1, hn16, hL, q⟩ := h
    have hu64 := hr.units
    have hu := lt64 hr.units
    refine ⟨_, (pss_cons (ps_set (i := 4) sc_law_other.nd rfl (Or.inl rfl) (pe_callB (cr_sortedX rfl) (by rfl) B.sorted (by decide +kernel) (pa_cons (pv 0) pa_nil)))
      (pss_cons (ps_set (i := 5) sc_law_other.nd rfl (Or.inl rfl) (pe_dnewX (P := P) (w := w) (K := K) ⟨rfl, rfl, rfl⟩))
      (pss_cons (ps_set (i := 6) sc_law_other.nd rfl (Or.inl rfl) (pe_op op_mod (pv 1) pe_int))
      (pss_cons (ps_set (i := 7) sc_law_other.nd rfl (Or.inl rfl) (pe_ix ix_list (pv 4) (pe_op op_mod (pe_op op_fdiv (pv 1) pe_int) (pe_callB call_len_seq (by rfl) B.len PySem.boot_len (pa_cons (pv 4) pa_nil))) (fun _ _ => rfl)))
      (pss_cons (ps_for PassesOwn.never rfl (pi_list (pv 4)) (pg_name (i := 8) sc_law_other.nd rfl (Or.inl rfl)) (pss_cons (ps_dputX (P := P) (w := w) (K := K) ⟨rfl, rfl, rfl⟩ hu (pv 5) (pv 8) (pe_dgx (P := P) (w := w) (K := K) ⟨rfl, rfl, rfl⟩ hu (pv 0) (pv 8) (fun _ _ => rfl)) rfl)
      (pss_cons (ps_if (PW.pt (pw_and (pt_cmpR (op_eqD hu64) (pv 8) (pv 7) (nomark _)) (pw_and1 (pt_cmpR op_eq (pv 6) pe_int (nomark _))))) (pss_one (ps_dputX (P := P) (w := w) (K := K) ⟨rfl, rfl, rfl⟩ hu (pv 5) (pv 8) (pe_op op_add (pe_op op_add (pe_dgx (P := P) (w := w) (K := K) ⟨rfl, rfl, rfl⟩ hu (pv 0) (pv 8) (fun _ _ => rfl)) pe_int) (pe_op op_mod (pe_op op_fdiv (pv 1) pe_int) pe_int)) rfl)) pss_nil)
      (pss_cons (ps_if (PW.pt (pw_and (pt_cmpR (op_eqD hu64) (pv 8) (pv 7) (nomark _)) (pw_and1 (pt_cmpR op_eq (pv 6) pe_int (nomark _))))) (pss_one (ps_dputX (P := P) (w := w) (K := K) ⟨rfl, rfl, rfl⟩ hu (pv 5) (pv 8) (pe_op op_sub (pe_op op_sub (pe_dgx (P := P) (w := w) (K := K) ⟨rfl, rfl, rfl⟩ hu (pv 0) (pv 8) (fun _ _ => rfl)) pe_int) (pe_op op_mod (pe_op op_fdiv (pv 1) pe_int) pe_int)) rfl)) pss_nil)
      (pss_one (ps_if (PW.pt (pw_and (pt_cmpR op_eq (pv 6) pe_int (nomark _)) (pw_and1 (pt_cmpR op_gt (pe_ix ix_tup (pv 8) pe_int (fun _ _ => rfl)) (pe_op op_mod (pe_op op_fdiv (pv 1) pe_int) (pe_op op_add (pv 3) pe_int)) (nomark _))))) (pss_one (ps_dputX (P := P) (w := w) (K := K) ⟨rfl, rfl, rfl⟩ hu (pv 5) (pv 8) (pe_op op_sub (pe_dgx (P := P) (w := w) (K := K) ⟨rfl, rfl, rfl⟩ hu (pv 0) (pv 8) (fun _ _ => rfl)) pe_int) rfl)) pss_nil))))))
      (pss_cons (ps_if (pt_cmpR op_eq (pv 6) pe_int (nomark _)) (pss_cons (ps_set (i := 9) sc_law_other.nd rfl (Or.inl rfl) (pe_dnewX (P := P) (w := w) (K := K) ⟨rfl, rfl, rfl⟩))
      (pss_cons (ps_for PassesOwn.never rfl (pi_list (pv 4)) (pg_name (i := 8) sc_law_other.nd rfl (Or.inl rfl)) (pss_one (ps_if (pt_cmpR (op_neD hu64) (pv 8) (pv 7) (nomark _)) (pss_one (ps_dputX (P := P) (w := w) (K := K) ⟨rfl, rfl, rfl⟩ hu (pv 9) (pv 8) (pe_dgx (P := P) (w := w) (K := K) ⟨rfl, rfl, rfl⟩ hu (pv 5) (pv 8) (fun _ _ => rfl)) rfl)) pss_nil)))
      (pss_one (ps_ret (pv 9))))) pss_nil)
      (pss_cons (ps_if (pt_cmpR op_eq (pv 6) pe_int (nomark _)) (pss_one (ps_dputX (P := P) (w := w) (K := K) ⟨rfl, rfl, rfl⟩ hu (pv 5) (pe_tup (pa_cons (pe_op op_mod (pe_op op_fdiv (pv 1) pe_int) (pe_op op_add (pv 3) pe_int)) (pa_cons (pe_op op_mod (pe_op op_fdiv (pv 1) pe_int) (pv 2)) (pa_cons (pe_op op_add pe_int (pe_op op_mod (pe_op op_fdiv (pv 1) pe_int) (pv 2))) pa_nil)))) (pe_op op_sub pe_int (pe_op op_mod (pe_op op_fdiv (pv 1) pe_int) pe_int)) rfl)) pss_nil)
      (pss_one (ps_ret (pv 5)))))))))), ?_⟩
    refine q_asgP (ep_sorted (ev_var rfl) hd) fun v H1 e1 ⟨p, cs, W, ev, hp, hp1, hpair, hW⟩ => ?_
    subst ev
    have hcl : cs.length = W.length := Paired.length hpair
    have hWl : W.length = ps.length := hW.perm.length_eq
    have hWn : (W.map (·.1)).Nodup := ((hW.perm.map (·.1)).nodup_iff).mpr hnd
    have hW0 : 0 < W.length := by rw [hWl]; exact List.length_pos_iff.mpr hne
    have hval : ∀ x ∈ W, valV (ps.map entC) (keyS x.1) = some (.int x.2) := fun x hx => by
      rw [cert_val, cert_of_mem hnd x (hW.perm.mem_iff.mp hx)]
      rfl
    have hat : ∀ (i : Nat) (x : Stg × Int), W[i]? = some x → ∃ a, cs[i]? = some a ∧ SqT K H1 a (stV x.1) := fun i x hx => by
      have hi : i < W.length := (List.getElem?_eq_some_iff.mp hx).1
      exact ⟨cs[i]'(by omega), List.getElem?_eq_getElem _, pair_at hpair (List.getElem?_eq_getElem (by omega)) hx⟩
    refine q_dnew (K := K) fun dd H2 hdd e2 hd2 => ?_
    refine q_asg (v := .int (c % 6)) (ev_op (ev_var rfl) ev_c (rv_mod (by decide))) fun H3 e3 => ?_
    -- at
    have hj0 := Int.emod_nonneg (c / 6) (show (W.length : Int) ≠ 0 by omega)
    have hj1 := Int.emod_lt_of_pos (c / 6) (show (0 : Int) < (W.length : Int) by omega)
    obtain ⟨j, hj, ej⟩ : ∃ j : Nat, j < W.length ∧ c / 6 % (W.length : Int) = (j : Int) := ⟨(c / 6 % (W.length : Int)).toNat, by omega, by omega⟩
    obtain ⟨qa, hqa, hqs⟩ := hat j W[j] (List.getElem?_eq_getElem hj)
    have eat : atC c W = W[j].1 := by
      unfold atC
      rw [ej, Int.toNat_natCast, List.getD_eq_getElem?_getD, List.getElem?_eq_getElem hj]
      rfl
    have h13 := (e2.trans e3) _ _ hp1
    have hcsl : ((cs.map L2.V.ref).length : Int) = (W.length : Int) := by rw [List.length_map, hcl]
    refine q_asg (v := .ref qa) (ev_op (ev_var rfl) (ev_op (ev_op (ev_var rfl) ev_c (rv_div (by decide) (by decide))) (ev_is (ev_len (ev_var rfl) (sq_of h13)) (by rw [hcsl])) (rv_mod (i := c / 6) (j := (W.length : Int)) (by omega))) (by rw [ej]; exact rv_ixL (sq_of h13) (atI_nat (by rw [List.getElem?_map, hqa]; rfl)))) fun H4 e4 => ?_
    have e14 := (e2.trans e3).trans e4
    have dd1 : H1 dd = none := hdd
    have hks : ∀ i, i ≤ W.length → ∀ x, W[i]? = some x → x.1 ∉ ((W.take i).map fun p => (p.1, ovC c L W[j].1 p)).map (·.1) := fun i hi x hx z => by
      have hi' : i < W.length := (List.getElem?_eq_some_iff.mp hx).1
      have hxi : W[i] = x := (List.getElem?_eq_some_iff.mp hx).2
      have h2 := hWn
      rw [← List.take_append_drop i W, List.drop_eq_getElem_cons hi', List.map_append, List.map_cons, List.nodup_append] at h2
      rw [List.map_map] at z
      exact h2.2.2 _ z _ List.mem_cons_self (by rw [hxi])
    refine q_forL (ev_var rfl) (sq_of (e4 _ _ h13)) (fun i σ H' => ∃ g : Option L2.V, σ = [some (.ref dc), some (.int c), some (.int (n : Int)), some (.int (L : Int)), some (.ref p), some (.ref dd), some (.int (c % 6)), some (.ref qa), g, none] ∧ Ex H1 H' ∧ DAt P w K H' dd (((W.take i).map fun p => (p.1, ovC c L W[j].1 p)).map entC)) (fun H5 e5 => ⟨none, rfl, e14.trans e5, (hd2.ext (e3.trans e4)).ext e5⟩)
      (fun i σ H' _ hP => by
        obtain ⟨_, _, z, _⟩ := hP
        exact sq_of (z _ _ hp1)) ?_ ?_
    · rintro i x σ H5 hx ⟨g, rfl, e5, hd5⟩
      rw [List.getElem?_map] at hx
      have hil : i < W.length := by
        rw [← hcl]
        cases e : cs[i]? with
        | none => rw [e] at hx; cases hx
        | some _ => exact (List.getElem?_eq_some_iff.mp e).1
      obtain ⟨a, ha, has⟩ := hat i W[i] (List.getElem?_eq_getElem hil)
      rw [ha] at hx
      obtain rfl := Option.some.inj hx
      have hx := List.getElem?_eq_getElem hil
      generalize W[i] = en at hx has
      have hmem := List.mem_of_getElem? hx
      have hnone := cert_none (hks i (by omega) en hx)
      have hlen : (((W.take i).map fun p => (p.1, ovC c L W[j].1 p)).map entC).length < 99999 := by
        rw [List.length_map, List.length_map, List.length_take]
        omega
      generalize hkv : ((W.take i).map fun p => (p.1, ovC c L W[j].1 p)).map entC = kv0 at hnone hd5 hlen
      have hcd : ∀ {H'}, Ex H1 H' → DAt P w K H' dc (ps.map entC) := fun e => (hd.ext e1).ext e
      -- the value as it is
      refine q_dput (k := keyS en.1) (ev_dgx (ev_var rfl) (ev_var rfl) (hcd e5) (k := keyS en.1) (ex_t e5 has) (hval en hmem)) (ev_var rfl) (ev_var rfl) hd5 (ex_t e5 has) (by omega) fun H6 H7 e6 hd7 hk7 => ?_
      rw [putK_new _ hnone] at hd7
      have e7 : Ex H1 H7 := ex_but (e5.trans e6) dd1 hk7
      have eq1 : ∀ {H'}, Ex H1 H' → EvT (tTest (tOp (rEqD K) (tVar 8) (tVar 7))) [some (.ref dc), some (.int c), some (.int (n : Int)), some (.int (L : Int)), some (.ref p), some (.ref dd), some (.int (c % 6)), some (.ref qa), some (.ref a), none] H' (decide (en.1 = W[j].1)) := fun e => et_is (et_test (ev_eqD (d := stD en.1) (d2 := stD W[j].1) (ed_at (ev_var rfl) (stD_mk (ex_t e has))) (ed_at (ev_var rfl) (stD_mk (ex_t e hqs))) (by rfl) (by rfl))) (eqv_st _ _)
      obtain ⟨M, hM⟩ : ∃ M : Int → L2.St → Hp → Prop, M = fun v σ H' => σ = [some (.ref dc), some (.int c), some (.int (n : Int)), some (.int (L : Int)), some (.ref p), some (.ref dd), some (.int (c % 6)), some (.ref qa), some (.ref a), none] ∧ Ex H1 H' ∧ DAt P w K H' dd (kv0 ++ [(keyS en.1, .int v)]) := ⟨_, rfl⟩
      have put : ∀ {te : TE} {v v' : Int} {H8 : Hp} {D' : Ends}, Ex H1 H8 → DAt P w K H8 dd (kv0 ++ [(keyS en.1, .int v)]) → Ev te [some (.ref dc), some (.int c), some (.int (n : Int)), some (.int (L : Int)), some (.ref p), some (.ref dd), some (.int (c % 6)), some (.ref qa), some (.ref a), none] H8 (.int v') → (∀ σ' H', M v' σ' H' → D'.nx σ' H') → sDPutX P w K (tVar 5) (tVar 8) te D' [some (.ref dc), some (.int c), some (.int (n : Int)), some (.int (L : Int)), some (.ref p), some (.ref dd), some (.int (c % 6)), some (.ref qa), some (.ref a), none] H8 := fun {te v v' H8 D'} e8 hd8 hv nx => by
        refine s_dput (k := keyS en.1) hv (ev_var rfl) (ev_var rfl) hd8 (ex_t e8 has) (by simp; omega) fun H9 H10 e9 hd10 hk10 => nx _ _ ?_
        rw [putK_last hnone] at hd10
        rw [hM]
        exact ⟨rfl, ex_but (e8.trans e9) dd1 hk10, hd10⟩
      have gv : ∀ {H'}, Ex H1 H' → Ev (tDGetX P w K (tVar 0) (tVar 8)) [some (.ref dc), some (.int c), some (.int (n : Int)), some (.int (L : Int)), some (.ref p), some (.ref dd), some (.int (c % 6)), some (.ref qa), some (.ref a), none] H' (.int en.2) := fun e => ev_dgx (ev_var rfl) (ev_var rfl) (hcd e) (k := keyS en.1) (ex_t e has) (hval en hmem)
      refine q_mid (M (if en.1 = W[j].1 ∧ c % 6 = 0 then en.2 + 1 + c / 100 % 5 else en.2)) (et_and (eq1 e7) fun _ => et_test (ev_eq (ev_var rfl) ev_c)) (fun hb H8 e8 D' nx => ?_) (fun hb H8 e8 => ?_) fun σ8 H8 m8 => ?_
      · rw [Bool.and_eq_true, decide_eq_true_eq, decide_eq_true_eq] at hb
        rw [if_pos hb] at nx
        exact put (e7.trans e8) (hd7.ext e8) (ev_add (ev_add (gv (e7.trans e8)) ev_c) (ev_op (ev_op (ev_var rfl) ev_c (rv_div (by decide) (by decide))) ev_c (rv_mod (by decide)))) nx
      · rw [hM]
        have hb : ¬ (en.1 = W[j].1 ∧ c % 6 = 0) := fun z => by rw [decide_eq_true z.1, decide_eq_true z.2] at hb; cases hb
        rw [if_neg hb]
        exact ⟨rfl, e7.trans e8, hd7.ext e8⟩
      rw [hM] at m8
      obtain ⟨rfl, e8, hd8⟩ := m8
      refine q_mid (M (if en.1 = W[j].1 ∧ c % 6 = 1 then en.2 - 1 - c / 100 % 5 else (if en.1 = W[j].1 ∧ c % 6 = 0 then en.2 + 1 + c / 100 % 5 else en.2))) (et_and (eq1 e8) fun _ => et_test (ev_eq (ev_var rfl) ev_c)) (fun hb H9 e9 D' nx => ?_) (fun hb H9 e9 => ?_) fun σ9 H9 m9 => ?_
      · rw [Bool.and_eq_true, decide_eq_true_eq, decide_eq_true_eq] at hb
        rw [if_pos hb] at nx
        exact put (e8.trans e9) (hd8.ext e9) (ev_sub (ev_sub (gv (e8.trans e9)) ev_c) (ev_op (ev_op (ev_var rfl) ev_c (rv_div (by decide) (by decide))) ev_c (rv_mod (by decide)))) nx
      · rw [hM]
        have hb : ¬ (en.1 = W[j].1 ∧ c % 6 = 1) := fun z => by rw [decide_eq_true z.1, decide_eq_true z.2] at hb; cases hb
        rw [if_neg hb]
        exact ⟨rfl, e8.trans e9, hd8.ext e9⟩
      rw [hM] at m9
      obtain ⟨rfl, e9, hd9⟩ := m9
      have hov : ovC c L W[j].1 en = if c % 6 = 2 ∧ en.1.1 > c / 100 % ((L : Int) + 1) then en.2 - 1 else (if en.1 = W[j].1 ∧ c % 6 = 1 then en.2 - 1 - c / 100 % 5 else (if en.1 = W[j].1 ∧ c % 6 = 0 then en.2 + 1 + c / 100 % 5 else en.2)) := by
        unfold ovC
        by_cases z0 : en.1 = W[j].1 ∧ c % 6 = 0
        · rw [if_pos z0, if_neg (fun z => by omega), if_neg (fun z => by omega), if_pos z0]
        · rw [if_neg z0, if_neg z0]
          by_cases z1 : en.1 = W[j].1 ∧ c % 6 = 1
          · rw [if_pos z1, if_neg (fun z => by omega), if_pos z1]
          · rw [if_neg z1, if_neg z1]
      refine s_mid (M (ovC c L W[j].1 en)) (et_and (et_test (ev_eq (ev_var rfl) ev_c)) fun _ => et_test (ev_op (ev_op (ev_var rfl) ev_c (rv_ixT (ex_t e9 has) rfl)) (ev_op (ev_op (ev_var rfl) ev_c (rv_div (by decide) (by decide))) (ev_add (ev_var rfl) ev_c) (rv_mod (by omega))) rv_I0)) (fun hb H10 e10 D' nx => ?_) (fun hb H10 e10 => ?_) fun σ10 H10 m10 => ?_
      · rw [Bool.and_eq_true, decide_eq_true_eq, decide_eq_true_eq] at hb
        rw [hov, if_pos hb] at nx
        exact put (e9.trans e10) (hd9.ext e10) (ev_sub (gv (e9.trans e10)) ev_c) nx
      · rw [hM]
        have hb : ¬ (c % 6 = 2 ∧ en.1.1 > c / 100 % ((L : Int) + 1)) := fun z => by rw [decide_eq_true z.1, decide_eq_true z.2] at hb; cases hb
        rw [hov, if_neg hb]
        exact ⟨rfl, e9.trans e10, hd9.ext e10⟩
      rw [hM] at m10
      obtain ⟨rfl, e10, hd10⟩ := m10
      refine ⟨_, rfl, e10, ?_⟩
      rw [List.take_succ, hx]
      show DAt P w K H10 dd (List.map entC ((W.take i ++ [en]).map fun p => (p.1, ovC c L W[j].1 p)))
      rw [List.map_append, List.map_append, hkv]
      exact hd10
    · rintro σ H5 ⟨g, rfl, e5, hd5⟩
      rw [List.length_map, hcl, List.take_length] at hd5
      refine q_when (et_test (ev_eq (ev_var rfl) ev_c)) (fun hb H6 e6 => ?_) (fun hb H6 e6 => ?_)
      · have hk3 : c % 6 = 3 := of_decide_eq_true hb
        have e16 := e5.trans e6
        have hd6 := hd5.ext e6
        have hid : (W.map fun p => (p.1, ovC c L W[j].1 p)) = W := by
          conv => rhs; rw [← List.map_id W]
          refine List.map_congr_left fun x hx => ?_
          unfold ovC
          rw [if_neg (fun z => by omega), if_neg (fun z => by omega), if_neg (fun z => by omega)]
          rfl
        rw [hid] at hd6
        refine q_dnew (K := K) fun ds H7 hds e7 hd7 => ?_
        have e17 := e16.trans e7
        have ds6 : H6 ds = none := hds
        have hne2 : dd ≠ ds := fun z => by
          obtain ⟨φ, hφ⟩ := hd6.isX
          rw [z, ds6] at hφ
          cases hφ
        refine q_forL (ev_var rfl) (sq_of (e17 _ _ hp1)) (fun i σ H' => ∃ g : Option L2.V, σ = [some (.ref dc), some (.int c), some (.int (n : Int)), some (.int (L : Int)), some (.ref p), some (.ref dd), some (.int (c % 6)), some (.ref qa), g, some (.ref ds)] ∧ Ex H6 H' ∧ DAt P w K H' ds (((W.take i).filter fun p => !decide (p.1 = W[j].1)).map entC)) (fun H8 e8 => ⟨_, rfl, e7.trans e8, hd7.ext e8⟩)
          (fun i σ H' _ hP => by
            obtain ⟨_, _, z, _⟩ := hP
            exact sq_of ((e16.trans z) _ _ hp1)) ?_ ?_
        · rintro i x σ H8 hx ⟨g, rfl, e8, hd8⟩
          rw [List.getElem?_map] at hx
          have hil : i < W.length := by
            rw [← hcl]
            cases e : cs[i]? with
            | none => rw [e] at hx; cases hx
            | some _ => exact (List.getElem?_eq_some_iff.mp e).1
          obtain ⟨a, ha, has⟩ := hat i W[i] (List.getElem?_eq_getElem hil)
          rw [ha] at hx
          obtain rfl := Option.some.inj hx
          have hx := List.getElem?_eq_getElem hil
          have hfr : W[i].1 ∉ (W.take i).map (·.1) := fun z => by
            have h2 := hWn
            rw [← List.take_append_drop i W, List.drop_eq_getElem_cons hil, List.map_append, List.map_cons, List.nodup_append] at h2
            exact h2.2.2 _ z _ List.mem_cons_self rfl
          generalize W[i] = en at hx has hfr
          have e18 := e16.trans e8
          have htk : W.take (i + 1) = W.take i ++ [en] := by rw [List.take_succ, hx]; rfl
          have hvo : valV (W.map entC) (keyS en.1) = some (.int en.2) := by rw [cert_val, cert_of_mem hWn en (List.mem_of_getElem? hx)]; rfl
          refine s_when (et_is (et_test (ev_neD (d := stD en.1) (d2 := stD W[j].1) (ed_at (ev_var rfl) (stD_mk (ex_t e18 has))) (ed_at (ev_var rfl) (stD_mk (ex_t e18 hqs))) (by rfl) (by rfl))) (by rw [eqv_st])) (fun hb H9 e9 => ?_) (fun hb H9 e9 => ?_)
          · have hn : valV (((W.take i).filter fun p => !decide (p.1 = W[j].1)).map entC) (keyS en.1) = none := cert_none fun z => hfr ((List.filter_sublist.map _).subset z)
            refine s_dput (k := keyS en.1) (ev_dgx (ev_var rfl) (ev_var rfl) (hd6.ext (e8.trans e9)) (k := keyS en.1) (ex_t (e18.trans e9) has) hvo) (ev_var rfl) (ev_var rfl) (hd8.ext e9) (ex_t (e18.trans e9) has) (by rw [List.length_map]; have := List.length_filter_le (fun p => !decide (p.1 = W[j].1)) (W.take i); rw [List.length_take] at this; omega) fun H10 H11 e10 hd11 hk11 => ⟨_, rfl, ex_but ((e8.trans e9).trans e10) ds6 hk11, ?_⟩
            rw [putK_new _ hn] at hd11
            rw [htk, List.filter_append, List.filter_cons, if_pos hb, List.map_append]
            exact hd11
          · refine ⟨_, rfl, e8.trans e9, ?_⟩
            rw [htk, List.filter_append, List.filter_cons, if_neg (by rw [hb]; exact Bool.false_ne_true), List.filter_nil, List.append_nil]
            exact hd8.ext e9
        · rintro σ H8 ⟨g, rfl, e8, hd8⟩
          rw [List.length_map, hcl, List.take_length] at hd8
          refine s_ret (ev_var rfl) fun H9 e9 => q ds W H9 (fresh_back (e1.trans e16) ds6) (((e1.trans e16).trans e8).trans e9) hW ?_
          unfold otherC
          rw [if_pos hk3, eat]
          exact hd8.ext e9
      · have hk3 : ¬ c % 6 = 3 := of_decide_eq_false hb
        have e16 := e5.trans e6
        have hd6 := hd5.ext e6
        refine q_mid (fun σ H' => σ = [some (.ref dc), some (.int c), some (.int (n : Int)), some (.int (L : Int)), some (.ref p), some (.ref dd), some (.int (c % 6)), some (.ref qa), g, none] ∧ Ex H1 H' ∧ DAt P w K H' dd ((otherC c L n W).map entC)) (et_test (ev_eq (ev_var rfl) ev_c)) (fun hb H7 e7 D' nx => ?_) (fun hb H7 e7 => ?_) fun σ7 H7 m7 => ?_
        · have hk4 : c % 6 = 4 := of_decide_eq_true hb
          have e17 := e16.trans e7
          have ho : otherC c L n W = putC (W.map fun p => (p.1, ovC c L W[j].1 p)) (newC c L n) (0 - c / 7 % 50) := by
            unfold otherC
            rw [if_neg hk3, if_pos hk4, eat]
          refine s_dputU (k := keyS (newC c L n)) (ev_sub ev_c (ev_op (ev_op (ev_var rfl) ev_c (rv_div (by decide) (by decide))) ev_c (rv_mod (by decide)))) (ev_var rfl) (eu_tup (ea3 (ev_op (ev_op (ev_var rfl) ev_c (rv_div (by decide) (by decide))) (ev_add (ev_var rfl) ev_c) (rv_mod (by omega))) (ev_op (ev_op (ev_var rfl) ev_c (rv_div (by decide) (by decide))) (ev_var rfl) (rv_mod (by omega))) (ev_add ev_c (ev_op (ev_op (ev_var rfl) ev_c (rv_div (by decide) (by decide))) (ev_var rfl) (rv_mod (by omega))))) (by show 3 ≤ 100000; decide)) (hd6.ext e7) (by rw [List.length_map, List.length_map]; omega) fun H8 H9 e8 hd9 hk9 => nx _ _ ⟨rfl, ex_but (e17.trans e8) dd1 hk9, ?_⟩
          rw [putC_is _ _ _ (by rw [List.map_map]; exact hWn)] at hd9
          rw [ho]
          exact hd9
        · have hk4 : ¬ c % 6 = 4 := of_decide_eq_false hb
          have ho : otherC c L n W = W.map fun p => (p.1, ovC c L W[j].1 p) := by
            unfold otherC
            rw [if_neg hk3, if_neg hk4, eat]
          rw [ho]
          exact ⟨rfl, e16.trans e7, hd6.ext e7⟩
        obtain ⟨rfl, e7, hd7⟩ := m7
        exact s_ret (ev_var rfl) fun H8 e8 => q dd W H8 (fresh_back e1 dd1) ((e1.trans e7).trans e8) hW (hd7.ext e8)
end
end K06
set_option Elab.async false
set_option linter.all false
set_option maxRecDepth 100000
set_option maxHeartbeats 4000000
set_option exponentiation.threshold 2048
namespace K06
open PySem PySem.Spec PyProof.Rows L2 StX GX KC KQ Evl M03 M04 M01
section
variable {P : Program} {w : World} {K : PySem.W.Frag} {mg : Str → Option Value} {base : Heap}
def spLChoices (K : PySem.W.Frag) : Sp := fun vs H Q _ => ∃ (l t : Addr) (ws : List Int) (L : Nat) (s : Stg), vs = [.ref l, .int (L : Int), .ref t] ∧ WIn K ws L l H ∧ SqT K H t (stV s) ∧ SOk (sumsL ws) L s ∧ s.2.2 ≤ 16 ∧ RetLD K (chsD (chS (sumsL ws) L s)) H Q
theorem ok_law_choices {f : Addr} {fd : FuncData} {k : Nat} (F : Fun K "_law_choices" "_law_choices" s_law_choices f fd) (B : Bs mg) (C_law_sums : Cal P w K mg base "_law_sums" 2 ["weights"] (spSums K)) (C_law_choices_by : Cal P w K mg base "_law_choices_by" 1 ["sums", "limit", "stage"] (spCh K chL)) : FnOk P w K mg base CX0 (k + 3) f fd ["weights", "limit", "stage"] (spLChoices K) := by
  refine F.ok sc_law_choices (fun vs H Q E h => ?_) (fun cdv A outer s H vs Q E hr h => ?_)
  · obtain ⟨l, t, ws, L, s, rfl, _⟩ := h
    rfl
  · obtain ⟨l, t, ws, L, s, rfl, hw, ht, ok, h16, q⟩ := h
    refine ⟨_, (pss_one (ps_ret (pe_callC C_law_choices_by (hr.mono (by omega)) (by rfl) (pa_cons (pe_callC C_law_sums (hr.mono (by omega)) (by rfl) (pa_cons (pv 0) pa_nil)) (pa_cons (pv 1) (pa_cons (pv 2) pa_nil)))))), ?_⟩
    have n2 := hw.n2
    exact (el_call (ea1 (ev_var rfl)) (spl_sums hw.sq (by omega))) H (Ex.refl H) _ fun p H1 hp e1 h1 => ⟨_, rfl, _, rfl, spd_chL (L := L) (sq_of h1) (ex_t e1 ht) ok (by rw [sumsL_len]; omega) (by omega) H1 (Ex.refl _) _ (fun p2 xs H2 hp2 e2 h2 hd2 => q p2 xs H2 (fresh_back e1 hp2) (e1.trans e2) h2 hd2) E⟩
theorem spd_lch {H : Hp} {l t : Addr} {ws : List Int} {L : Nat} {s : Stg} (hw : WIn K ws L l H) (ht : SqT K H t (stV s)) (ok : SOk (sumsL ws) L s) (hk : s.2.2 ≤ 16) : SpLD K (spLChoices K) ([.ref l, .int (L : Int), .ref t] ++ []) H (chsD (chS (sumsL ws) L s)) := fun H1 e1 Q q E => ⟨l, t, ws, L, s, rfl, hw.ext e1, ex_t e1 ht, ok, hk, fun p xs H2 hp e h hd => q p xs H2 hp e h hd⟩
theorem ev_ixNL {ta : TA} {tb : TE} {σ : L2.St} {H : Hp} {xs : List Int} {v : Int} {j : Nat} {i : Int} (h : EvA ta σ H (xs.map L2.V.int)) (hl : xs.length ≤ 100000) (hb : Ev tb σ H (.int i)) (ei : i = (j : Int)) (hj : xs[j]? = some v) : Ev (tOp (rIxL K) (tLst ta) tb) σ H (.int v) := fun H1 e Q q =>
  (el_lst h (by rw [List.length_map]; exact hl)) H1 e _ fun p H2 hp e2 h2 => hb H2 (e.trans e2) _ fun H3 e3 => ⟨p, _, i, .int v, rfl, rfl, sq_of (e3 _ _ h2), at_of ei (by rw [List.getElem?_map, hj]; rfl), q H3 (e2.trans e3)⟩
def spLens (K : PySem.W.Frag) : Sp := fun vs H Q _ => ∃ (l : Addr) (ls : List Int) (c : Int) (L : Nat), vs = [.ref l, .int c, .int (L : Int)] ∧ SqL K H l (ls.map L2.V.int) ∧ 1 ≤ ls.length ∧ ls.length ≤ 16 ∧
  ∀ p ls' H2, H p = none → Ex H H2 → H2 p = some (.lst ((ls' : List Int).map L2.V.int)) → ls'.length ≤ 100 → Q (.ref p) H2
theorem ok_law_lengths {f : Addr} {fd : FuncData} {k : Nat} (F : Fun K "_law_lengths" "_law_lengths" s_law_lengths f fd) (B : Bs mg) : FnOk P w K mg base CX0 (k + 1) f fd ["lengths", "cell", "limit"] (spLens K) := by
  refine F.ok sc_law_lengths (fun vs H Q E h => ?_) (fun cdv A outer s H vs Q E hr h => ?_)
  · obtain ⟨l, ls, c, L, rfl, _⟩ := h
    rfl
  · obtain ⟨l, ls, c, L, rfl, hs, h1, h16, q⟩ := h
    refine ⟨_, (pss_cons (ps_set (i := 3) sc_law_lengths.nd rfl (Or.inl rfl) (pe_callTy call_list_of (by rfl) B.list (by decide +kernel) (pa_cons (pv 0) pa_nil)))
      (pss_cons (ps_if (pt_cmpR op_eq (pe_op op_mod (pv 1) pe_int) pe_int (nomark _)) (pss_one (ps_asg (pe_op op_mod (pe_op op_fdiv (pv 1) pe_int) (pe_op op_add (pv 2) pe_int)) (pg_sub (pv 3) (pe_op op_mod (pe_op op_fdiv (pv 1) pe_int) (pe_callB call_len_seq (by rfl) B.len PySem.boot_len (pa_cons (pv 3) pa_nil))) set_list))) pss_nil)
      (pss_cons (ps_if (pt_cmpR op_eq (pe_op op_mod (pv 1) pe_int) pe_int (nomark _)) (pss_one (ps_set (i := 3) sc_law_lengths.nd rfl (Or.inl rfl) (pe_op op_cat (pe_slice sl_list (pv 3) (po_some pe_int) po_none) (pe_slice sl_list (pv 3) po_none (po_some pe_int))))) pss_nil)
      (pss_cons (ps_if (pt_cmpR op_eq (pe_op op_mod (pv 1) pe_int) pe_int (nomark _)) (pss_one (ps_set (i := 3) sc_law_lengths.nd rfl (Or.inl rfl) (pe_op op_cat (pv 3) (pe_lst (pa_cons pe_int pa_nil))))) pss_nil)
      (pss_cons (ps_if (pt_cmpR op_eq (pe_op op_mod (pv 1) pe_int) pe_int (nomark _)) (pss_one (ps_set (i := 3) sc_law_lengths.nd rfl (Or.inl rfl) (pe_slice sl_list (pv 3) po_none (po_some (pe_op op_mod (pe_op op_fdiv (pv 1) pe_int) (pe_callB call_len_seq (by rfl) B.len PySem.boot_len (pa_cons (pv 3) pa_nil))))))) pss_nil)
      (pss_cons (ps_if (pt_cmpR op_eq (pe_op op_mod (pv 1) pe_int) pe_int (nomark _)) (pss_one (ps_asg (pe_ix ix_list (pe_lst (pa_cons (pe_un un_neg pe_int) (pa_cons pe_int (pa_cons pe_int (pa_cons pe_int (pa_cons (pe_un un_neg pe_int) pa_nil)))))) (pe_op op_mod (pe_op op_fdiv (pv 1) pe_int) pe_int) (fun _ _ => rfl)) (pg_sub (pv 3) (pe_op op_mod (pe_op op_fdiv (pv 1) pe_int) (pe_callB call_len_seq (by rfl) B.len PySem.boot_len (pa_cons (pv 3) pa_nil))) set_list))) pss_nil)
      (pss_one (ps_ret (pv 3))))))))), ?_⟩
    refine q_asgL (el_listOf (ev_var rfl) hs) fun p1 H1 hp1 e1 hl1 => ?_
    obtain ⟨M, hM⟩ : ∃ M : Nat → Prop → L2.St → Hp → Prop, M = fun n C σ H' => ∃ (p : Addr) (xs : List Int), σ = [some (.ref l), some (.int c), some (.int (L : Int)), some (.ref p)] ∧ H p = none ∧ Ex H H' ∧ H' p = some (.lst (xs.map L2.V.int)) ∧ xs.length ≤ n ∧ (C → 1 ≤ xs.length) := ⟨_, rfl⟩
    have idx : ∀ {H' : Hp} {p : Addr} {xs : List Int} {d : Int}, H' p = some (.lst (xs.map L2.V.int)) → 1 ≤ xs.length → 0 < d → d < 1073741824 → ∃ j : Nat, j < xs.length ∧ c / d % ((xs.map L2.V.int).length : Int) = (j : Int) := fun {H' p xs d} hx h1 _ _ => by
      rw [List.length_map]
      have a := Int.emod_nonneg (c / d) (show (xs.length : Int) ≠ 0 by omega)
      have b := Int.emod_lt_of_pos (c / d) (show (0 : Int) < (xs.length : Int) by omega)
      exact ⟨(c / d % (xs.length : Int)).toNat, by omega, by omega⟩
    have eidx : ∀ {H' : Hp} {p : Addr} {xs : List Int} {d : Int} {j : Nat} {σ : L2.St}, H' p = some (.lst (xs.map L2.V.int)) → 1 ≤ xs.length → 0 < d → d < 1073741824 → c / d % ((xs.map L2.V.int).length : Int) = (j : Int) → σ = [some (.ref l), some (.int c), some (.int (L : Int)), some (.ref p)] → Ev (tOp (rI (fun _ j => 0 < j) fun i j => .int (i % j)) (tOp (rI CDiv fun i j => .int (i / j)) (tVar 1) (tC (.int d))) (tCB (fun xs H Q => ∃ p ys, xs = [.ref p] ∧ (SqL K H p ys ∨ SqT K H p ys) ∧ Q (.int (ys.length : Int)) H) (tCons (tVar 3) tNil))) σ H' (.int (j : Int)) := fun {H' p xs d j σ} hx h1 hd1 hd2 ej es => by
      subst es
      rw [← ej]
      exact ev_op (ev_op (ev_var rfl) ev_c (rv_div hd1 hd2)) (ev_len (ev_var rfl) (sq_of hx)) (rv_mod (by rw [List.length_map]; omega))
    refine q_mid (M 18 True) (et_test (ev_eq (ev_op (ev_var rfl) ev_c (rv_mod (by decide))) ev_c)) (fun hb H2 e2 D' nx => ?_) (fun hb H2 e2 => by rw [hM]; exact ⟨p1, ls, rfl, hp1, e1.trans e2, e2 _ _ hl1, by omega, fun _ => h1⟩) fun σ2 H2 m2 => ?_
    · have hx := e2 _ _ hl1
      obtain ⟨j, hj, ej⟩ := idx (d := 4) hx h1 (by decide) (by decide)
      refine s_setL hx (ev_op (ev_op (ev_var rfl) ev_c (rv_div (by decide) (by decide))) (ev_add (ev_var rfl) ev_c) (rv_mod (by omega))) (ev_var rfl) (eidx hx h1 (by decide) (by decide) ej rfl) (by rw [List.length_map]; exact hj) fun H3 e3 => nx _ _ ?_
      rw [hM]
      exact ⟨p1, ls.set j _, rfl, hp1, Ex.mut ((e1.trans e2).trans e3) hp1, by rw [upd_same, List.map_set], by rw [List.length_set]; omega, fun _ => by rw [List.length_set]; exact h1⟩
    rw [hM] at m2
    obtain ⟨p2, x2, rfl, hp2, ex2, hl2, hn2, hc2⟩ := m2
    refine q_mid (M 36 (c % 4 = 3)) (et_test (ev_eq (ev_op (ev_var rfl) ev_c (rv_mod (by decide))) ev_c)) (fun hb H3 e3 D' nx => ?_) (fun hb H3 e3 => by rw [hM]; exact ⟨p2, x2, rfl, hp2, ex2.trans e3, e3 _ _ hl2, by omega, fun _ => hc2 trivial⟩) fun σ3 H3 m3 => ?_
    · have hb : c % 4 = 2 := of_decide_eq_true hb
      have hx := e3 _ _ hl2
      obtain ⟨y1, ey1, ly1, _⟩ := cutV_ints x2 (some 1) none
      obtain ⟨y2, ey2, ly2, _⟩ := cutV_ints x2 none (some 1)
      have h0 := el_catLL (el_sl (K := K) (te := tVar 3) (σ := [some (.ref l), some (.int c), some (.int (L : Int)), some (.ref p2)]) (H := H3) (ev_var rfl) (eo_some (te := tC (.int 1)) ev_c) eo_none (sq_of hx)) (el_sl (K := K) (te := tVar 3) (ev_var rfl) eo_none (eo_some (te := tC (.int 1)) ev_c) (sq_of hx)) (by have a := cutV_length (x2.map L2.V.int) (some 1) none; have b := cutV_length (x2.map L2.V.int) none (some 1); rw [List.length_map] at a b; omega)
      rw [ey1, ey2, ← List.map_append] at h0
      refine s_asgL h0 fun p4 H4 hp4 e4 hl4 => nx _ _ ?_
      rw [hM]
      exact ⟨p4, y1 ++ y2, rfl, fresh_back (ex2.trans e3) hp4, (ex2.trans e3).trans e4, hl4, by rw [List.length_append]; omega, fun z => by omega⟩
    rw [hM] at m3
    obtain ⟨p3, x3, rfl, hp3, ex3, hl3, hn3, hc3⟩ := m3
    refine q_mid (M 40 (c % 4 = 3)) (et_test (ev_eq (ev_op (ev_var rfl) ev_c (rv_mod (by decide))) ev_c)) (fun hb H4 e4 D' nx => ?_) (fun hb H4 e4 => by rw [hM]; exact ⟨p3, x3, rfl, hp3, ex3.trans e4, e4 _ _ hl3, by omega, hc3⟩) fun σ4 H4 m4 => ?_
    · have hx := e4 _ _ hl3
      have h0 := el_cat3 (ta := tVar 3) (σ := [some (.ref l), some (.int c), some (.int (L : Int)), some (.ref p3)]) (H := H4) (ev_var rfl) hx (el_lst (ea1 (ev_c (v := .int 1))) (by decide)) (by rw [List.length_map]; show x3.length + 1 ≤ 100000; omega)
      have e1 : x3.map L2.V.int ++ [L2.V.int 1] = (x3 ++ [1]).map L2.V.int := by rw [List.map_append]; rfl
      rw [e1] at h0
      refine s_asgL h0 fun p5 H5 hp5 e5 hl5 => nx _ _ ?_
      rw [hM]
      exact ⟨p5, x3 ++ [1], rfl, fresh_back (ex3.trans e4) hp5, (ex3.trans e4).trans e5, hl5, by rw [List.length_append]; show x3.length + 1 ≤ 40; omega, fun _ => by rw [List.length_append]; show 1 ≤ x3.length + 1; omega⟩
    rw [hM] at m4
    obtain ⟨p4, x4, rfl, hp4, ex4, hl4, hn4, hc4⟩ := m4
    refine q_mid (M 40 (c % 40 = 11)) (et_test (ev_eq (ev_op (ev_var rfl) ev_c (rv_mod (by decide))) ev_c)) (fun hb H5 e5 D' nx => ?_) (fun hb H5 e5 => by rw [hM]; exact ⟨p4, x4, rfl, hp4, ex4.trans e5, e5 _ _ hl4, hn4, fun z => hc4 (by omega)⟩) fun σ5 H5 m5 => ?_
    · have hb : c % 40 = 7 := of_decide_eq_true hb
      have h14 := hc4 (by omega)
      have hx := e5 _ _ hl4
      obtain ⟨j, hj, ej⟩ := idx (d := 40) hx h14 (by decide) (by decide)
      obtain ⟨y, ey, ly, _⟩ := cutV_ints x4 none (some (j : Int))
      have h0 := el_sl (K := K) (te := tVar 3) (σ := [some (.ref l), some (.int c), some (.int (L : Int)), some (.ref p4)]) (H := H5) (ev_var rfl) eo_none (eo_some (eidx hx h14 (by decide) (by decide) ej rfl)) (sq_of hx)
      rw [ey] at h0
      refine s_asgL h0 fun p6 H6 hp6 e6 hl6 => nx _ _ ?_
      rw [hM]
      exact ⟨p6, y, rfl, fresh_back (ex4.trans e5) hp6, (ex4.trans e5).trans e6, hl6, by omega, fun z => by omega⟩
    rw [hM] at m5
    obtain ⟨p5, x5, rfl, hp5, ex5, hl5, hn5, hc5⟩ := m5
    refine q_mid (M 40 False) (et_test (ev_eq (ev_op (ev_var rfl) ev_c (rv_mod (by decide))) ev_c)) (fun hb H6 e6 D' nx => ?_) (fun hb H6 e6 => by rw [hM]; exact ⟨p5, x5, rfl, hp5, ex5.trans e6, e6 _ _ hl5, hn5, fun z => z.elim⟩) fun σ6 H6 m6 => ?_
    · have hb : c % 40 = 11 := of_decide_eq_true hb
      have h15 := hc5 hb
      have hx := e6 _ _ hl5
      obtain ⟨j, hj, ej⟩ := idx (d := 40) hx h15 (by decide) (by decide)
      obtain ⟨i, hi, ei⟩ : ∃ i : Nat, i < 5 ∧ c / 200 % 5 = (i : Int) := ⟨(c / 200 % 5).toNat, by omega, by omega⟩
      obtain ⟨v, hv⟩ : ∃ v : Int, ([-1, 21, 40, 1000, -30] : List Int)[i]? = some v := ⟨_, List.getElem?_eq_getElem (by show i < 5; exact hi)⟩
      refine s_setL (v := .int v) hx (ev_ixNL (xs := [-1, 21, 40, 1000, -30]) (j := i) (ea_cons (ev_un (x := .int 1) ev_c ru_neg) (ea_cons ev_c (ea_cons ev_c (ea2 ev_c (ev_un (x := .int 30) ev_c ru_neg))))) (by decide) (ev_op (ev_op (ev_var rfl) ev_c (rv_div (by decide) (by decide))) ev_c (rv_mod (by decide))) ei hv) (ev_var rfl) (eidx hx h15 (by decide) (by decide) ej rfl) (by rw [List.length_map]; exact hj) fun H7 e7 => nx _ _ ?_
      rw [hM]
      exact ⟨p5, x5.set j v, rfl, hp5, Ex.mut ((ex5.trans e6).trans e7) hp5, by rw [upd_same, List.map_set], by rw [List.length_set]; exact hn5, fun z => z.elim⟩
    rw [hM] at m6
    obtain ⟨p6, x6, rfl, hp6, ex6, hl6, hn6, _⟩ := m6
    exact s_ret (ev_var rfl) fun H7 e7 => q p6 x6 H7 hp6 (ex6.trans e7) (e7 _ _ hl6) (by omega)
end
end K06
set_option Elab.async false
set_option linter.all false
set_option maxRecDepth 100000
set_option maxHeartbeats 4000000
set_option exponentiation.threshold 2048
namespace K06
open PySem PySem.Spec PyProof.Rows L2 StX GX KC KQ Evl M03 M04 M01
def sumK (ls : List Int) (L : Int) : Int := (ls.map fun x => (1 : Int) * 2 ^ (L - x).toNat).sum
theorem sumK_tot (L : Nat) : ∀ F : List Nat, (∀ l ∈ F, 1 ≤ l ∧ l ≤ L) → sumK (asI F) L = ((tot L F : Nat) : Int)
  | [], _ => rfl
  | l :: F, h => by
    have ih := sumK_tot L F fun x hx => h x (List.mem_cons_of_mem _ hx)
    have hl := h l List.mem_cons_self
    have e1 : asI (l :: F) = (l : Int) :: asI F := rfl
    have e2 : tot L (l :: F) = 2 ^ (L - l) + tot L F := rfl
    have e3 : ((L : Int) - (l : Int)).toNat = L - l := by omega
    unfold sumK at ih ⊢
    rw [e1, e2, List.map_cons, List.sum_cons, ih, e3]
    push_cast
    omega
theorem as_nat {ls : List Int} {L : Nat} (h : ∀ x ∈ ls, 1 ≤ x ∧ x ≤ (L : Int)) : asI (ls.map Int.toNat) = ls ∧ ∀ l ∈ ls.map Int.toNat, 1 ≤ l ∧ l ≤ L := by
  refine ⟨?_, fun l hl => ?_⟩
  · unfold asI
    rw [List.map_map]
    conv => rhs; rw [← List.map_id ls]
    refine List.map_congr_left fun x hx => ?_
    have := h x hx
    show ((x.toNat : Nat) : Int) = x
    omega
  · obtain ⟨x, hx, rfl⟩ := List.mem_map.mp hl
    have := h x hx
    omega
theorem keep_room {ls : List Int} {L : Nat} (hne : ls ≠ []) (h : ∀ x ∈ ls, 1 ≤ x ∧ x ≤ (L : Int)) (hL : L ≤ 20) : keepB ls L = decide (sumK ls L ≤ 1 * 2 ^ L) := by
  obtain ⟨h1, h2⟩ := as_nat h
  have hk := kraft_tot L hL _ h2
  have hs := sumK_tot L _ h2
  rw [h1] at hk hs
  have ha : (ls.all fun x => decide (1 ≤ x) && decide (x ≤ (L : Int))) = true := List.all_eq_true.mpr fun x hx => by
    rw [decide_eq_true (h x hx).1, decide_eq_true (h x hx).2]
    rfl
  have hy : (ls.any fun x => !decide (x = 0)) = true := by
    obtain ⟨x, hx⟩ := List.exists_mem_of_ne_nil ls hne
    exact List.any_eq_true.mpr ⟨x, hx, by have := h x hx; simp; omega⟩
  unfold keepB codeB
  rw [ha, hy, Bool.true_and, Bool.and_true]
  rw [decide_eq_decide, hs]
  unfold M01.roomL
  rw [hk]
  have e : (2 : Nat) ^ 20 = 2 ^ L * 2 ^ (20 - L) := by rw [← Nat.pow_add]; congr 1; omega
  have ep : 0 < 2 ^ (20 - L) := Nat.pow_pos (by decide)
  have e2 : (tot L (ls.map Int.toNat) * 2 ^ (20 - L) ≤ 2 ^ 20) ↔ tot L (ls.map Int.toNat) ≤ 2 ^ L := by
    rw [e]
    exact ⟨fun z => Nat.le_of_mul_le_mul_right z ep, fun z => Nat.mul_le_mul_right _ z⟩
  have e3 : (2 : Nat) ^ 20 = 1048576 := by decide
  rw [e3] at e2
  have e4 : ((1 : Int) * 2 ^ L) = ((2 ^ L : Nat) : Int) := by push_cast; omega
  rw [e4]
  constructor
  · intro z
    have : tot L (ls.map Int.toNat) ≤ 2 ^ L := e2.mp (by omega)
    omega
  · intro z
    have := e2.mpr (by omega)
    omega
theorem range_getD (f : Int → Int) (ls : List Int) : (List.range ls.length).map (fun i => f (ls.getD i 0)) = ls.map f := by
  refine List.ext_getElem (by simp) fun i h1 h2 => ?_
  rw [List.getElem_map, List.getElem_map, List.getElem_range, List.getD_eq_getElem?_getD, List.getElem?_eq_getElem (by simpa using h2)]
  rfl
theorem keep_no {ls : List Int} {L : Nat} {x : Int} (hx : x ∈ ls) (h : x < 1 ∨ x > (L : Int)) : keepB ls L = false := by
  unfold keepB
  have : (ls.all fun x => decide (1 ≤ x) && decide (x ≤ (L : Int))) = false := List.all_eq_false.mpr ⟨x, hx, fun z => by
    rw [Bool.and_eq_true, decide_eq_true_eq, decide_eq_true_eq] at z
    omega⟩
  rw [this]
  rfl
section
variable {P : Program} {w : World} {K : PySem.W.Frag} {mg : Str → Option Value} {base : Heap}
theorem ev_dnotinXU {ty td : TE} {σ : L2.St} {H : Hp} {a : Addr} {kvs : List (List Key × L2.V)} {k : List Key} (h2 : EvU ty σ H (k.map kV)) (h1 : Ev td σ H (.ref a)) (g : DAt P w K H a kvs) : Ev (tDNotInX P w K ty td) σ H (.bl (!(valV kvs k).isSome)) := fun H1 e Q q => h2 H1 e _ fun p H2 hp e2 h3 => h1 H2 (e.trans e2) _ fun H3 e3 => ⟨a, kvs, p, k, rfl, rfl, g.ext ((e.trans e2).trans e3), ex_t e3 (st_of h3), q H3 (e2.trans e3)⟩
theorem q_midR {t : TT} {s1 tz : TS} {b : Bool} {σ : L2.St} {H : Hp} {D : Ends} (Mid : L2.St → Hp → Prop) (h : EvT t σ H b) (h1 : b = true → ∀ H1, Ex H H1 → ∀ nx : L2.St → Hp → Prop, (∀ σ' H', Mid σ' H' → nx σ' H') → s1 { D with nx := nx } σ H1) (h2 : b = false → ∀ H1, Ex H H1 → Mid σ H1) (h3 : ∀ σ' H', Mid σ' H' → tz D σ' H') : tSeq (tIfS t s1 tNext) tz D σ H :=
  q_when h (fun hb H1 e1 => h1 hb H1 e1 _ fun σ' H' m => h3 σ' H' m) (fun hb H1 e1 => h3 _ _ (h2 hb H1 e1))
theorem q_forP {tl : TE} {g : TG} {tu tz : TS} {σ : L2.St} {H : Hp} {D : Ends} {R : Addr → List L2.V → Hp → Prop} (h : EvP tl σ H (fun v H1 => ∃ p xs, v = .ref p ∧ H1 p = some (.lst xs) ∧ R p xs H1)) (Pv : List L2.V → Addr → Nat → L2.St → Hp → Prop) (h0 : ∀ xs p H1, Ex H H1 → H1 p = some (.lst xs) → R p xs H1 → Pv xs p 0 σ H1)
    (hl : ∀ xs p i σ' H', i ≤ xs.length → Pv xs p i σ' H' → SqL K H' p xs) (hs : ∀ xs p i x σ' H', xs[i]? = some x → Pv xs p i σ' H' → g x σ' H' fun σ2 H2 => tu { D with nx := Pv xs p (i + 1), ct := Pv xs p (i + 1), bk := tz D } σ2 H2) (hd : ∀ xs p σ' H', Pv xs p xs.length σ' H' → tz D σ' H') : tSeq (tFor (iList K tl) g tu) tz D σ H :=
  h H (Ex.refl H) _ fun v H1 e ⟨p, xs, ev, h1, r⟩ => by
    subst ev
    exact ⟨p, rfl, ⟨xs, sq_of h1⟩, for_list (D := { D with nx := tz D }) (Pv xs p) (h0 xs p H1 e h1 r) (hl xs p) (fun i x σ' H' => hs xs p i x σ' H') (fun σ' H' => hd xs p σ' H')⟩
def spJudged (P : Program) (w : World) (K : PySem.W.Frag) : Sp := fun vs H Q _ => ∃ (l t dc : Addr) (ws ls : List Int) (L : Nat) (ps : List (Stg × Int)), vs = [.ref l, .int (L : Int), .ref t, .ref dc] ∧ WIn K ws L l H ∧ SqL K H t (ls.map L2.V.int) ∧ ls.length ≤ 100 ∧ (∀ i, i < ws.length → 0 ≤ ws.getD i 0 ∧ ws.getD i 0 ≤ 1000000) ∧
  DAt P w K H dc (ps.map entC) ∧ CIn (sumsL ws) L ps ∧ RetV (.bl (shownB ws L ls ps)) H Q
theorem ok_law_judged {f : Addr} {fd : FuncData} {k : Nat} (F : Fun K "_law_judged" "_law_judged" s_law_judged f fd) (B : Bs mg) (C_law_choices : Cal P w K mg base "_law_choices" 3 ["weights", "limit", "stage"] (spLChoices K)) : FnOk P w K mg base CX0 (k + 4) f fd ["weights", "limit", "lengths", "certificate"] (spJudged P w K) := by
  refine F.ok sc_law_judged (fun vs H Q E h => ?_) (fun cdv A outer s H vs Q E hr h => ?_)
  · obtain ⟨l, t, dc, ws, ls, L, ps, rfl, _⟩ := h
    rfl
  · obtain ⟨l, t, dc, ws, ls, L, ps, rfl, hw, ht, hln, hwb, hd, hc, q⟩ := h
    have hu64 := hr.units
    have hu := lt64 hr.units
    refine ⟨_, (pss_cons (ps_if (PW.pt (pw_or (pt_cmpR op_ne (pe_callB call_len_seq (by rfl) B.len PySem.boot_len (pa_cons (pv 2) pa_nil)) (pe_callB call_len_seq (by rfl) B.len PySem.boot_len (pa_cons (pv 0) pa_nil)) (nomark _)) (pw_or (pt_cmpR op_lt (pe_callB (cr_min rfl) (by rfl) B.min (by decide +kernel) (pa_cons (pv 2) pa_nil)) pe_int (nomark _)) (pw_or1 (pt_cmpR op_gt (pe_callB (cr_max rfl) (by rfl) B.max (by decide +kernel) (pa_cons (pv 2) pa_nil)) (pv 1) (nomark _)))))) (pss_one (ps_ret pe_bl)) pss_nil)
      (pss_cons (ps_if (PW.pt (pw_or (pt_cmpR op_gt (pe_callB (cr_sum rfl) (by rfl) B.sum (by decide +kernel) (pa_cons (pe_lc rfl sc_law_judged.nd (pi_list (pv 2)) (blkOk_by (own := [("length", 4)]) (N := ["weights", "limit", "lengths", "certificate", "length", "stage", "choice", "behind", "k"]) (sc := defScope s_law_judged) (by decide +kernel)) (fun _ _ _ _ _ => (pg_name (i := 4) sc_law_judged.nd rfl (Or.inl rfl))) (fun _ _ _ _ _ => pts_nil) (fun _ _ _ _ _ => (pe_op op_shl pe_int (pe_op op_sub (pv 1) (pv 4))))) pa_nil)) (pe_op op_shl pe_int (pv 1)) (nomark _)) (pw_or1 (pt_cmp (pc_dnotinX (P := P) (w := w) (K := K) ⟨rfl, rfl, rfl⟩ hu (pe_tup (pa_cons pe_int (pa_cons pe_int (pa_cons pe_int pa_nil)))) (pv 3)))))) (pss_one (ps_ret pe_bl)) pss_nil)
      (pss_cons (ps_for PassesOwn.never rfl (pi_list (pe_callB (cr_sortedX rfl) (by rfl) B.sorted (by decide +kernel) (pa_cons (pv 3) pa_nil))) (pg_name (i := 5) sc_law_judged.nd rfl (Or.inl rfl)) (pss_one (ps_for PassesOwn.never rfl (pi_list (pe_callC C_law_choices (hr.mono (by omega)) (by rfl) (pa_cons (pv 0) (pa_cons (pv 1) (pa_cons (pv 5) pa_nil))))) (pg_name (i := 6) sc_law_judged.nd rfl (Or.inl rfl)) (pss_cons (ps_set (i := 7) sc_law_judged.nd rfl (Or.inl rfl) pe_int)
      (pss_cons (ps_if (pt_cmpR op_notN (pe_ix ix_tup (pv 6) pe_int (fun _ _ => rfl)) pe_non (nomark _)) (pss_cons (ps_if (pt_cmp (pc_dnotinX (P := P) (w := w) (K := K) ⟨rfl, rfl, rfl⟩ hu (pe_ix ix_tup (pv 6) pe_int (fun _ _ => rfl)) (pv 3))) (pss_one (ps_ret pe_bl)) pss_nil)
      (pss_one (ps_set (i := 7) sc_law_judged.nd rfl (Or.inl rfl) (pe_dgx (P := P) (w := w) (K := K) ⟨rfl, rfl, rfl⟩ hu (pv 3) (pe_ix ix_tup (pv 6) pe_int (fun _ _ => rfl)) (fun _ _ => rfl))))) pss_nil)
      (pss_one (ps_if (pt_cmpR op_gt (pe_dgx (P := P) (w := w) (K := K) ⟨rfl, rfl, rfl⟩ hu (pv 3) (pv 5) (fun _ _ => rfl)) (pe_op op_add (pe_ix ix_tup (pv 6) pe_int (fun _ _ => rfl)) (pv 7)) (nomark _)) (pss_one (ps_ret pe_bl)) pss_nil)))))))
      (pss_one (ps_ret (pe_cmpR op_eq (pe_dgx (P := P) (w := w) (K := K) ⟨rfl, rfl, rfl⟩ hu (pv 3) (pe_tup (pa_cons pe_int (pa_cons pe_int (pa_cons pe_int pa_nil)))) (fun _ _ => rfl)) (pe_callB (cr_sum rfl) (by rfl) B.sum (by decide +kernel) (pa_cons (pe_lc rfl sc_law_judged.nd (pi_range1 (by rfl) B.range (pa_cons (pe_callB call_len_seq (by rfl) B.len PySem.boot_len (pa_cons (pv 0) pa_nil)) pa_nil)) (blkOk_by (own := [("k", 8)]) (N := ["weights", "limit", "lengths", "certificate", "length", "stage", "choice", "behind", "k"]) (sc := defScope s_law_judged) (by decide +kernel)) (fun _ _ _ _ _ => (pg_name (i := 8) sc_law_judged.nd rfl (Or.inl rfl))) (fun _ _ _ _ _ => pts_nil) (fun _ _ _ _ _ => (pe_op op_mul (pe_ix (ix_listK (K := K) rfl) (pv 0) (pv 8) (fun _ _ => rfl)) (pe_ix (ix_listK (K := K) rfl) (pv 2) (pv 8) (fun _ _ => rfl))))) pa_nil)) (nomark _))))))), ?_⟩
    have n1 := hw.n1
    have n2 := hw.n2
    have l1 := hw.l1
    have l2 := hw.l2
    unfold shownB at q
    by_cases hlen : ls.length = ws.length
    case neg =>
      rw [decide_eq_false hlen, Bool.false_and] at q
      refine q_when (b := true) (et_is (et_or (a := true) (b := true) (et_is (et_test (ev_ne (ev_len (ev_var rfl) ht) (ev_len (ev_var rfl) hw.sq))) (by rw [List.length_map, List.length_map, decide_eq_false (by omega)]; rfl)) (fun z => by cases z)) rfl) (fun _ H1 e1 => ?_) (fun z => by cases z)
      exact s_ret ev_c fun H2 e2 => q H2 (e1.trans e2)
    case pos =>
      rw [decide_eq_true hlen, Bool.true_and] at q
      have hne : ls ≠ [] := fun z => by rw [z] at hlen; simp at hlen; omega
      obtain ⟨mi, hmi, hmi2⟩ := min_of _ hne
      obtain ⟨ma, hma, hma2⟩ := KC.max_of _ hne
      refine q_when (b := decide (mi < 1) || decide (ma > (L : Int))) (et_is (et_or (a := false) (et_is (et_test (ev_ne (ev_len (ev_var rfl) ht) (ev_len (ev_var rfl) hw.sq))) (by rw [List.length_map, List.length_map, decide_eq_true (by omega)]; rfl))
        fun _ => et_or (et_test (ev_lt (ev_minL (ev_var rfl) ht hmi hmi2) ev_c)) fun _ => et_test (ev_op (ev_maxL (ev_var rfl) ht hma hma2) (ev_var rfl) rv_I0)) rfl) (fun hb H1 e1 => ?_) (fun hb H1 e1 => ?_)
      · rw [Bool.or_eq_true, decide_eq_true_eq, decide_eq_true_eq] at hb
        have : keepB ls L = false := by
          rcases hb with z | z
          · exact keep_no hmi (.inl z)
          · exact keep_no hma (.inr z)
        rw [this, Bool.false_and] at q
        exact s_ret ev_c fun H2 e2 => q H2 (e1.trans e2)
      · rw [Bool.or_eq_false_iff, decide_eq_false_iff_not, decide_eq_false_iff_not] at hb
        have hbd : ∀ x ∈ ls, 1 ≤ x ∧ x ≤ (L : Int) := fun x hx => by
          have := hmi2 x hx
          have := hma2 x hx
          omega
        rw [keep_room hne hbd (by omega)] at q
        have hlb : ∀ i, i < ls.length → 1 ≤ ls.getD i 0 ∧ ls.getD i 0 ≤ (L : Int) := fun i hi => by
          rw [List.getD_eq_getElem?_getD, List.getElem?_eq_getElem hi]
          exact hbd _ (List.getElem_mem _)
        have hsum : EvL (tLc (iList K (tVar 2)) (gName 4) tYes (tOp (rI CPow fun i j => .int (i * 2 ^ j.toNat)) (tC (.int 1)) (tOp (rI0 fun i j => .int (i - j)) (tVar 1) (tVar 4))) [4]) [some (.ref l), some (.int (L : Int)), some (.ref t), some (.ref dc), none, none, none, none, none] H1 ((ls.map fun x => (1 : Int) * 2 ^ ((L : Int) - x).toNat).map L2.V.int) := by
          have h0 := el_lcL (K := K) (xs := ls.map L2.V.int) (tl := tVar 2) (j := 4) (vs := [4]) (σ := [some (.ref l), some (.int (L : Int)), some (.ref t), some (.ref dc), none, none, none, none, none]) (H := H1) (t := tYes) (te := tOp (rI CPow fun i j => .int (i * 2 ^ j.toNat)) (tC (.int 1)) (tOp (rI0 fun i j => .int (i - j)) (tVar 1) (tVar 4))) (fun _ => true) (fun i => L2.V.int ((1 : Int) * 2 ^ ((L : Int) - ls.getD i 0).toNat)) (ev_var rfl) (ex_l e1 ht) (by rw [List.length_map]; omega) (fun x => rfl) (fun i x H2 e2 hx => et_yes) (fun i x H2 e2 hx _ => by
            rw [List.getElem?_map] at hx
            have hil : i < ls.length := by
              cases e : ls[i]? with
              | none => rw [e] at hx; cases hx
              | some _ => exact (List.getElem?_eq_some_iff.mp e).1
            rw [List.getElem?_eq_getElem hil] at hx
            obtain rfl := Option.some.inj hx
            have hb := hlb i hil
            rw [List.getD_eq_getElem?_getD, List.getElem?_eq_getElem hil] at hb ⊢
            exact ev_op ev_c (ev_sub (i := (L : Int)) (ev_var rfl) (ev_var rfl)) (rv_shl ⟨by show 0 ≤ (L : Int) - ls[i]; have : (some ls[i]).getD 0 = ls[i] := rfl; omega, by show (L : Int) - ls[i] ≤ 1000000; have : (some ls[i]).getD 0 = ls[i] := rfl; omega, by decide⟩))
          have e2 : given (ls.map L2.V.int).length (fun _ => true) (fun i => L2.V.int ((1 : Int) * 2 ^ ((L : Int) - ls.getD i 0).toNat)) = (ls.map fun x => (1 : Int) * 2 ^ ((L : Int) - x).toNat).map L2.V.int := by
            rw [List.length_map]
            have h3 := given_all ls.length (fun i => (1 : Int) * 2 ^ ((L : Int) - ls.getD i 0).toNat)
            rw [h3, range_getD (fun x => (1 : Int) * 2 ^ ((L : Int) - x).toNat)]
          rw [e2] at h0
          exact h0
        refine q_when (b := decide (sumK ls L > 1 * 2 ^ L) || !(certOf ps (0, 0, 1)).isSome) (et_is (et_or (et_test (ev_op (ev_sumL hsum) (ev_op ev_c (ev_var rfl) (rv_shl ⟨by omega, by omega, by decide⟩)) rv_I0)) fun _ => et_B (ev_dnotinXU (k := keyS (0, 0, 1)) (eu_tup (ea3 ev_c ev_c ev_c) (by show 3 ≤ 100000; decide)) (ev_var rfl) (hd.ext e1))) (by rw [cert_val]; cases certOf ps (0, 0, 1) <;> rfl)) (fun hb H2 e2 => ?_) (fun hb H2 e2 => ?_)
        · have hq : (decide (sumK ls L ≤ 1 * 2 ^ L) && (decide (certOf ps (0, 0, 1) = some (costI ws ls)) && soundB (sumsL ws) L ps)) = false := by
            rw [Bool.or_eq_true, decide_eq_true_eq] at hb
            rcases hb with z | z
            · rw [decide_eq_false (by omega)]
              rfl
            · cases e : certOf ps (0, 0, 1) with
              | some v => rw [e] at z; cases z
              | none =>
                have : decide ((none : Option Int) = some (costI ws ls)) = false := by simp
                rw [this, Bool.false_and, Bool.and_false]
          rw [hq] at q
          exact s_ret ev_c fun H3 e3 => q H3 ((e1.trans e2).trans e3)
        · rw [Bool.or_eq_false_iff, decide_eq_false_iff_not] at hb
          obtain ⟨v, hv⟩ : ∃ v, certOf ps (0, 0, 1) = some v := by
            cases e : certOf ps (0, 0, 1) with
            | some v => exact ⟨v, rfl⟩
            | none => rw [e] at hb; have := hb.2; cases this
          rw [decide_eq_true (show sumK ls L ≤ 1 * 2 ^ L by omega), Bool.true_and, hv] at q
          have qf : soundB (sumsL ws) L ps = false → ∀ H', Ex H H' → Q (.bl false) H' := fun z H' e => by
            rw [z, Bool.and_false] at q
            exact q H' e
          have e02 := e1.trans e2
          refine q_forP (K := K) (R := fun p xs H' => ∃ cs W, xs = cs.map L2.V.ref ∧ Paired (RSc K H') cs W ∧ Sorted ps W) (fun H3 e3 Q q => ep_sorted (ev_var rfl) (hd.ext e02) H3 e3 Q fun v H4 e4 ⟨p, cs, W, ev, _, h, pr, so⟩ => q v H4 e4 ⟨p, _, ev, h, cs, W, rfl, pr, so⟩)
            (fun xs p i σ H' => ∃ (cs : List Addr) (W : List (Stg × Int)) (a5 a6 a7 : Option L2.V), σ = [some (.ref l), some (.int (L : Int)), some (.ref t), some (.ref dc), none, a5, a6, a7, none] ∧ Ex H H' ∧ H' p = some (.lst xs) ∧ xs = cs.map L2.V.ref ∧ Paired (RSc K H') cs W ∧ Sorted ps W ∧ ((W.take i).all fun p => lowB (sumsL ws) L (certOf ps) p.1 p.2) = true)
            (fun xs p H3 e3 h3 ⟨cs, W, ex, pr, so⟩ => ⟨cs, W, none, none, none, rfl, e02.trans e3, h3, ex, pr, so, by simp⟩)
            (fun xs p i σ H' _ hP => by
              obtain ⟨_, _, _, _, _, _, _, z, _⟩ := hP
              exact sq_of z) ?_ ?_
          · rintro xs p i x σ H5 hx ⟨cs, W, a5, a6, a7, rfl, e5, hp5, rfl, pr, so, hall⟩
            have hcl := Paired.length pr
            rw [List.getElem?_map] at hx
            obtain ⟨a, ha, rfl⟩ : ∃ a, cs[i]? = some a ∧ L2.V.ref a = x := by
              cases e : cs[i]? with
              | none => rw [e] at hx; cases hx
              | some a => rw [e] at hx; exact ⟨a, rfl, Option.some.inj hx⟩
            have hil : i < W.length := by have := (List.getElem?_eq_some_iff.mp ha).1; omega
            have hen := List.getElem?_eq_getElem hil
            have has := pair_at pr ha hen
            generalize W[i] = en at hen has
            have has : SqT K H5 a (stV en.1) := has
            have hmem : en ∈ ps := so.perm.mem_iff.mp (List.mem_of_getElem? hen)
            have hok := hc.ok en hmem
            have hcv := cert_of_mem hc.nd en hmem
            have hvv : valV (ps.map entC) (keyS en.1) = some (.int en.2) := by rw [cert_val, hcv]; rfl
            have hlow : lowB (sumsL ws) L (certOf ps) en.1 en.2 = false → soundB (sumsL ws) L ps = false := fun z => List.all_eq_false.mpr ⟨en, hmem, by rw [z]; exact Bool.false_ne_true⟩
            refine s_forLD (K := K) (eld_call (ea3 (ev_var rfl) (ev_var rfl) (ev_var rfl)) (spd_lch (hw.ext e5) has hok.1 hok.2))
              (fun xs2 p2 i2 σ H' => ∃ b6 b7 : Option L2.V, σ = [some (.ref l), some (.int (L : Int)), some (.ref t), some (.ref dc), none, some (.ref a), b6, b7, none] ∧ Ex H5 H' ∧ H' p2 = some (.lst xs2) ∧ DpAll K H' xs2 (chsD (chS (sumsL ws) L en.1)) ∧ ((chS (sumsL ws) L en.1).take i2).all (okC (certOf ps) en.2) = true)
              (fun xs2 p2 H6 _ e6 h6 hd6 => ⟨a6, a7, rfl, e6, h6, hd6, by simp⟩)
              (fun xs2 p2 i2 σ H' _ hP => by
                obtain ⟨_, _, _, _, z, _⟩ := hP
                exact sq_of z) ?_ ?_
            · rintro xs2 p2 i2 x2 σ H6 hxl hx2 ⟨b6, b7, rfl, e6, hp6, hd6, hall2⟩
              obtain ⟨dd, hdd, hxd⟩ := dp_get hd6 hx2
              unfold chsD at hdd
              rw [List.getElem?_map] at hdd
              obtain ⟨ch, hch, rfl⟩ : ∃ ch, (chS (sumsL ws) L en.1)[i2]? = some ch ∧ chD ch = dd := by
                cases e : (chS (sumsL ws) L en.1)[i2]? with
                | none => rw [e] at hdd; cases hdd
                | some ch => rw [e] at hdd; exact ⟨ch, rfl, Option.some.inj hdd⟩
              obtain ⟨tc, n, rfl, hsc, hn⟩ := ch_at hxd
              have hnx := nx_is hn
              have hno : okC (certOf ps) en.2 ch = false → soundB (sumsL ws) L ps = false := fun z => hlow (by
                unfold lowB
                exact List.all_eq_false.mpr ⟨ch, List.mem_of_getElem? hch, by rw [z]; exact Bool.false_ne_true⟩)
              have hyes : okC (certOf ps) en.2 ch = true → ((chS (sumsL ws) L en.1).take (i2 + 1)).all (okC (certOf ps) en.2) = true := fun z => by
                rw [List.take_succ, hch, List.all_append, hall2]
                simpa using z
              have e06 := e5.trans e6
              refine q_asg (v := .int 0) ev_c fun H7 e7 => ?_
              refine q_midR (fun σ H' => ∃ b : Int, σ = [some (.ref l), some (.int (L : Int)), some (.ref t), some (.ref dc), none, some (.ref a), some (.ref tc), some (.int b), none] ∧ Ex H7 H' ∧ okC (certOf ps) en.2 ch = decide (en.2 ≤ ch.2.1 + b)) (et_test (ev_notN (ev_op (ev_var rfl) ev_c (rv_ixT (ex_t e7 hsc) rfl)) ev_c)) (fun hb H8 e8 nx hnx2 => ?_) (fun hb H8 e8 => ?_) fun σ8 H8 m8 => ?_
              · rw [hnx] at hb
                obtain ⟨s', es⟩ : ∃ s', ch.2.2 = some s' := by
                  cases e : ch.2.2 with
                  | none => rw [e] at hb; simp at hb
                  | some s' => exact ⟨s', rfl⟩
                obtain ⟨t2, rfl, hst2⟩ := nx_some hn es
                have e08 := (e06.trans e7).trans e8
                refine q_when (et_B (ev_dnotinX (ev_op (ev_var rfl) ev_c (rv_ixT (ex_t (e7.trans e8) hsc) rfl)) (ev_var rfl) (hd.ext e08) (k := keyS s') (ex_t (e7.trans e8) hst2))) (fun hb H9 e9 => ?_) (fun hb H9 e9 => ?_)
                · rw [cert_val] at hb
                  have hv' : certOf ps s' = none := by
                    cases e : certOf ps s' with
                    | none => rfl
                    | some v' => rw [e] at hb; cases hb
                  have ho : okC (certOf ps) en.2 ch = false := by unfold okC; rw [es]; simp only [hv']
                  exact s_ret ev_c fun H10 e10 => qf (hno ho) H10 ((e08.trans e9).trans e10)
                · rw [cert_val] at hb
                  obtain ⟨v', hv'⟩ : ∃ v', certOf ps s' = some v' := by
                    cases e : certOf ps s' with
                    | none => rw [e] at hb; cases hb
                    | some v' => exact ⟨v', rfl⟩
                  have ho : okC (certOf ps) en.2 ch = decide (en.2 ≤ ch.2.1 + v') := by unfold okC; rw [es]; simp only [hv']
                  have hv2 : valV (ps.map entC) (keyS s') = some (.int v') := by rw [cert_val, hv']; rfl
                  refine s_asg (ev_dgx (ev_var rfl) (ev_op (ev_var rfl) ev_c (rv_ixT (ex_t ((e7.trans e8).trans e9) hsc) rfl)) (hd.ext (e08.trans e9)) (k := keyS s') (ex_t ((e7.trans e8).trans e9) hst2) hv2) fun H10 e10 => hnx2 _ _ ⟨v', rfl, (e8.trans e9).trans e10, ho⟩
              · rw [hnx] at hb
                have es : ch.2.2 = none := by
                  cases e : ch.2.2 with
                  | none => rfl
                  | some s' => rw [e] at hb; simp at hb
                exact ⟨0, rfl, e8, by unfold okC; rw [es, Int.add_zero]⟩
              · obtain ⟨b, rfl, e8, ho⟩ := m8
                have e08 := (e06.trans e7).trans e8
                refine s_when (et_test (ev_op (ev_dgx (ev_var rfl) (ev_var rfl) (hd.ext e08) (k := keyS en.1) (ex_t ((e6.trans e7).trans e8) has) hvv) (ev_add (ev_op (ev_var rfl) ev_c (rv_ixT (ex_t (e7.trans e8) hsc) rfl)) (ev_var rfl)) rv_I0)) (fun hb H9 e9 => ?_) (fun hb H9 e9 => ?_)
                · have hgt := of_decide_eq_true hb
                  exact s_ret ev_c fun H10 e10 => qf (hno (by rw [ho]; exact decide_eq_false (by omega))) H10 ((e08.trans e9).trans e10)
                · have hgt := of_decide_eq_false hb
                  exact ⟨_, _, rfl, ((e6.trans e7).trans e8).trans e9, ((e7.trans e8).trans e9) _ _ hp6, DpAll.ext ((e7.trans e8).trans e9) _ _ hd6, hyes (by rw [ho]; exact decide_eq_true (by omega))⟩
            · rintro xs2 p2 σ H6 hxl ⟨b6, b7, rfl, e6, hp6, hd6, hall2⟩
              have e0 : xs2.length = (chS (sumsL ws) L en.1).length := by rw [hxl]; exact List.length_map _
              rw [e0, List.take_length] at hall2
              have hl : lowB (sumsL ws) L (certOf ps) en.1 en.2 = true := hall2
              refine ⟨cs, W, _, _, _, rfl, e5.trans e6, e6 _ _ hp5, rfl, Paired.mapP pr fun a b z => ex_t e6 z, so, ?_⟩
              rw [List.take_succ, hen, List.all_append, hall]
              simpa using hl
          · rintro xs p σ H5 ⟨cs, W, a5, a6, a7, rfl, e5, hp5, rfl, pr, so, hall⟩
            have hcl := Paired.length pr
            rw [List.length_map, hcl, List.take_length] at hall
            have hso : soundB (sumsL ws) L ps = true := by
              unfold soundB
              rw [List.all_eq_true] at hall ⊢
              exact fun p hp => hall p (so.perm.mem_iff.mpr hp)
            rw [hso, Bool.and_true] at q
            have hvv : valV (ps.map entC) (keyS (0, 0, 1)) = some (.int v) := by rw [cert_val, hv]; rfl
            have hgv : given ws.length (fun _ => true) (fun i => L2.V.int (ws.getD i 0 * ls.getD i 0)) = ((List.range ws.length).map fun k => ws.getD k 0 * ls.getD k 0).map L2.V.int := given_all ws.length (fun i => ws.getD i 0 * ls.getD i 0)
            have hrt : decide (some v = some (costI ws ls)) = decide (v = costI ws ls) := by rw [decide_eq_decide]; exact ⟨Option.some.inj, fun z => by rw [z]⟩
            rw [hrt] at q
            refine s_ret (ev_eq (i := v) (j := costI ws ls) (ev_dgxU (ev_var rfl) (k := keyS (0, 0, 1)) (eu_tup (ea3 ev_c ev_c ev_c) (by show 3 ≤ 100000; decide)) (hd.ext e5) hvv) (ev_sumL (ns := (List.range ws.length).map fun k => ws.getD k 0 * ls.getD k 0) (by
              rw [← hgv]
              have hwn : ((ws.map L2.V.int).length : Int) = (ws.length : Int) := by rw [List.length_map]
              refine el_lcR1 (n := (ws.length : Int)) (fun _ => true) _ (ea1 (ev_is (ev_len (ev_var rfl) (ex_l e5 hw.sq)) (by rw [hwn]))) ⟨by omega, by omega⟩ (fun x => rfl) (fun i H1 e hi => et_yes) (fun k H1 e hk _ => ?_)
              have hk' : k < ws.length := by omega
              exact ev_op (ev_op (ev_var rfl) (ev_var rfl) (rv_ixL (ex_l (e5.trans e) hw.sq) (atI_at rfl hk'))) (ev_op (ev_var rfl) (ev_var rfl) (rv_ixL (ex_l (e5.trans e) ht) (atI_at rfl (by omega)))) (rv_mul (by have := hwb k hk'; omega))))) fun H6 e6 => q H6 (e5.trans e6)
end
end K06
set_option Elab.async false
set_option linter.all false
set_option maxRecDepth 100000
set_option maxHeartbeats 4000000
set_option exponentiation.threshold 2048
namespace K06
open PySem PySem.Spec PyProof.Rows L2 StX GX KC KQ Evl M03 M04 M01
theorem cert_at {ws : List Int} {L : Nat} {ss : List Stg} (h : RS (sumsL ws) L ss) (s : Stg) : certOf (certP ws L ss) s = if s ∈ ss then some ((M04.V (sumsL ws) L s).getD (L * ws.sum)) else none := by
  by_cases hs : s ∈ ss
  · rw [if_pos hs]
    have hm : (s, (M04.V (sumsL ws) L s).getD (L * ws.sum)) ∈ certP ws L ss := List.mem_map.mpr ⟨s, List.mem_reverse.mpr hs, rfl⟩
    exact cert_of_mem (by rw [certP_keys]; exact rev_nodup h.nd) _ hm
  · rw [if_neg hs]
    unfold certOf
    rw [List.find?_eq_none.mpr fun p hp => by
      obtain ⟨x, hx, rfl⟩ := List.mem_map.mp hp
      simp only [decide_eq_true_eq]
      intro e
      exact hs (by rw [← e]; exact List.mem_reverse.mp hx)]
    rfl
theorem cert_shown {ws : List Int} {L : Nat} {ss : List Stg} {v : Int} (hL : 1 ≤ L) (hL2 : L ≤ 16) (n1 : 1 ≤ ws.length) (n2 : ws.length ≤ 16) (hnn : ∀ v ∈ ws, 0 ≤ v) (hrs : RS (sumsL ws) L ss) (hsl : ss.length ≤ 50000) (hv : M04.V (sumsL ws) L (0, 0, 1) = some v) : shownB ws L (lensW ws L) (certP ws L ss) = true := by
  have hne : ws ≠ [] := fun z => by rw [z] at n1; simp at n1
  obtain ⟨F, hF, hg⟩ := lens_good hL hne hv
  have hin := certP_in hL n1 n2 hrs hsl
  have hln : (lensW ws L).length = ws.length := by rw [hF]; unfold asI; rw [List.length_map, hg.len]
  have hbd : ∀ x ∈ lensW ws L, 1 ≤ x ∧ x ≤ (L : Int) := fun x hx => by
    rw [hF] at hx
    obtain ⟨y, hy, rfl⟩ := List.mem_map.mp hx
    have := hg.bd y hy
    omega
  have hlne : lensW ws L ≠ [] := fun z => by rw [z] at hln; simp at hln; omega
  have hk : keepB (lensW ws L) L = true := by
    rw [keep_room hlne hbd (by omega)]
    refine decide_eq_true ?_
    rw [hF, sumK_tot L F hg.bd]
    have := hg.kr
    have e4 : ((1 : Int) * 2 ^ L) = ((2 ^ L : Nat) : Int) := by push_cast; omega
    omega
  have hc : certOf (certP ws L ss) (0, 0, 1) = some (costI ws (lensW ws L)) := by
    rw [cert_at hrs, if_pos ((hrs.iff _).mpr .first), hv, hF, hg.co]
    rfl
  have hso : soundB (sumsL ws) L (certP ws L ss) = true := by
    have hS := M06.ceil_sound (sums := sumsL ws) (L := (L : Int)) (ss := ss) (C := L * ws.sum) (by omega) (by rw [nN_sums]; omega) hrs (fun j => ((M06.restL_le (vs := ranked ws) fun v hv => hnn v ((ranked_perm ws).mem_iff.mp hv)).2 j).1) (fun s hs v hv => M06.V_le hnn (((hrs.iff s).mp hs).ok (by omega) (by rw [nN_sums]; omega)).1 hv)
    have hf : (fun s => if s ∈ ss then some ((M04.V (sumsL ws) L s).getD (L * ws.sum)) else none) = certOf (certP ws L ss) := funext fun s => (cert_at hrs s).symm
    rw [hf] at hS
    have := sound_iff.mp hS
    unfold soundB
    rw [List.all_eq_true]
    exact fun p hp => this p.1 p.2 (cert_of_mem hin.nd p hp)
  unfold shownB
  rw [hln, hk, hc, hso, decide_eq_true rfl, decide_eq_true rfl]
  rfl
theorem cert_mem {ps : List (Stg × Int)} {s : Stg} {v : Int} (h : certOf ps s = some v) : (s, v) ∈ ps := by
  unfold certOf at h
  cases e : ps.find? fun p => decide (p.1 = s) with
  | none => rw [e] at h; cases h
  | some p =>
    rw [e] at h
    have h1 : p.2 = v := Option.some.inj h
    have h2 : p.1 = s := by simpa using List.find?_some e
    have : p = (s, v) := Prod.ext h2 h1
    rw [← this]
    exact List.mem_of_find?_eq_some e
theorem shown_parts {ws ls : List Int} {L : Nat} {ps : List (Stg × Int)} (n1 : 1 ≤ ws.length) (hL : L ≤ 16) (h : shownB ws L ls ps = true) : ls.length = ws.length ∧ (∀ i, i < ws.length → 0 ≤ ls.getD i 0 ∧ ls.getD i 0 ≤ 20) ∧ (∀ x ∈ ls, 1 ≤ x ∧ x ≤ (L : Int)) ∧ sumK ls L ≤ 1 * 2 ^ L ∧ certOf ps (0, 0, 1) = some (costI ws ls) ∧ soundB (sumsL ws) L ps = true := by
  unfold shownB at h
  rw [Bool.and_eq_true, Bool.and_eq_true, Bool.and_eq_true, decide_eq_true_eq, decide_eq_true_eq] at h
  obtain ⟨h1, h2, h3, h4⟩ := h
  have hb : ∀ x ∈ ls, 1 ≤ x ∧ x ≤ (L : Int) := fun x hx => by
    have h2' := h2
    unfold keepB at h2'
    rw [Bool.and_eq_true] at h2'
    have := List.all_eq_true.mp h2'.1 x hx
    rw [Bool.and_eq_true, decide_eq_true_eq, decide_eq_true_eq] at this
    exact this
  have hne : ls ≠ [] := fun z => by rw [z] at h1; simp at h1; omega
  rw [keep_room hne hb (by omega), decide_eq_true_eq] at h2
  refine ⟨h1, fun i hi => ?_, hb, h2, h3, h4⟩
  have := hb (ls.getD i 0) (by rw [List.getD_eq_getElem?_getD, List.getElem?_eq_getElem (by omega)]; exact List.getElem_mem _)
  omega
theorem shown_best {ws ls : List Int} {L : Nat} {ps : List (Stg × Int)} (n1 : 1 ≤ ws.length) (hL1 : 1 ≤ L) (hL : L ≤ 16) (hnn : ∀ v ∈ ws, 0 ≤ v) (hc : CIn (sumsL ws) L ps) (h : shownB ws L ls ps = true) : bestAll ws L = some (costI ws ls) := by
  obtain ⟨h1, _, hb, h2, h3, h4⟩ := shown_parts n1 hL h
  obtain ⟨g1, g2⟩ := as_nat hb
  have hs : M06.Sound (sumsL ws) L (certOf ps) := sound_iff.mpr fun s v hv => by
    unfold soundB at h4
    exact List.all_eq_true.mp h4 (s, v) (cert_mem hv)
  have hk : tot L (ls.map Int.toNat) ≤ 2 ^ L := by
    have := sumK_tot L _ g2
    rw [g1] at this
    have e4 : ((1 : Int) * 2 ^ L) = ((2 ^ L : Nat) : Int) := by push_cast; omega
    omega
  have := M06.shown_least (F := ls.map Int.toNat) hL1 (fun z => by rw [z] at n1; simp at n1) hnn hs (by rw [g1]; exact h3) (by rw [List.length_map, h1]) g2 hk
  rw [g1] at this
  exact this
section
variable {P : Program} {w : World} {K : PySem.W.Frag} {mg : Str → Option Value} {base : Heap} {σ : L2.St} {H : Hp} {ta tb tc td : TE}
theorem ev_callLL {sp : Sp} {E : XK} {xs zs : List L2.V} {y u v : L2.V} (h1 : EvL ta σ H xs) (h2 : Ev tb σ H y) (h3 : EvL tc σ H zs) (h4 : Ev td σ H u) (hs : ∀ p r H1, Ex H H1 → H1 p = some (.lst xs) → H1 r = some (.lst zs) → SpV sp ([.ref p, y, .ref r, u] ++ []) H1 v) : Ev (tCall sp [] E (tCons ta (tCons tb (tCons tc (tCons td tNil))))) σ H v := fun H1 e Q q =>
  h1 H1 e _ fun p H2 hp e2 hx => h2 H2 (e.trans e2) _ fun H3 e3 => h3 H3 ((e.trans e2).trans e3) _ fun r H4 hr e4 hz => h4 H4 (((e.trans e2).trans e3).trans e4) _ fun H5 e5 =>
    hs p r H5 ((((e.trans e2).trans e3).trans e4).trans e5) (((e3.trans e4).trans e5) _ _ hx) (e5 _ _ hz) H5 (Ex.refl _) Q (fun H6 e6 => q H6 ((((e2.trans e3).trans e4).trans e5).trans e6)) E
theorem rv_notB {a b : Bool} : RV rNotB (.bl a) (.bl b) H (.bl (!decide (a = b))) := fun H1 _ Q q => ⟨a, b, rfl, rfl, q H1 (Ex.refl H1)⟩
def RMake (P : Program) (w : World) (K : PySem.W.Frag) (ws : List Int) (L : Nat) : L2.V → Hp → Prop := fun v H' => ∃ t p d ss, v = .ref t ∧ RS (sumsL ws) L ss ∧ ss.length ≤ 50000 ∧ H' p = some (.lst ((lensW ws L).map L2.V.int)) ∧ DAt P w K H' d ((certP ws L ss).map entC) ∧ H' t = some (.tup [.ref p, .ref d])
theorem sp_make {H1 : Hp} {l Pt : Addr} {ws : List Int} {L : Nat} {v : Int} {E : XK} (hw : WIn K ws L l H1) (hv : M04.V (sumsL ws) L (0, 0, 1) = some v) (ht : H1 Pt = some (TabX Pt)) : ∀ Q : VK, (∀ v H2, Ex H1 H2 → RMake P w K ws L v H2 → Q v H2) → spMake P w K Pt ([.ref l, .int (L : Int)] ++ []) H1 Q E := fun Q q =>
  ⟨l, ws, L, rfl, hw, ⟨v, hv⟩, ht, fun t p d ss H2 hp h1 e hr hl hp2 hd ht2 => q _ H2 e ⟨t, p, d, ss, rfl, hr, hl, hp2, hd, ht2⟩⟩
theorem sp_shown {l t dc PC P1 P2 P3 P4 : Addr} {ws ls : List Int} {L : Nat} {ps : List (Stg × Int)} (hw : WIn K ws L l H) (ht : SqL K H t (ls.map L2.V.int)) (hl : ls.length ≤ 100) (hb : ∀ i, i < ws.length → 0 ≤ ws.getD i 0 ∧ ws.getD i 0 ≤ 1000000) (hd : DAt P w K H dc (ps.map entC)) (hc : CIn (sumsL ws) L ps)
    (tc : H PC = some (TabX PC)) (t1 : H P1 = some (TabX P1)) (t2 : H P2 = some (TabX P2)) (t3 : H P3 = some (TabX P3)) (t4 : H P4 = some (TabX P4)) : SpV (spShown P w K PC P1 P2 P3 P4) ([.ref l, .int (L : Int), .ref t, .ref dc] ++ []) H (.bl (shownB ws L ls ps)) := fun H1 e Q q E =>
  ⟨l, t, dc, ws, ls, L, ps, rfl, hw.ext e, ex_l e ht, hl, hb, hd.ext e, hc, e _ _ tc, e _ _ t1, e _ _ t2, e _ _ t3, e _ _ t4, q⟩
theorem sp_judged {l t dc : Addr} {ws ls : List Int} {L : Nat} {ps : List (Stg × Int)} (hw : WIn K ws L l H) (ht : SqL K H t (ls.map L2.V.int)) (hl : ls.length ≤ 100) (hb : ∀ i, i < ws.length → 0 ≤ ws.getD i 0 ∧ ws.getD i 0 ≤ 1000000) (hd : DAt P w K H dc (ps.map entC)) (hc : CIn (sumsL ws) L ps) : SpV (spJudged P w K) ([.ref l, .int (L : Int), .ref t, .ref dc] ++ []) H (.bl (shownB ws L ls ps)) := fun H1 e Q q E =>
  ⟨l, t, dc, ws, ls, L, ps, rfl, hw.ext e, ex_l e ht, hl, hb, hd.ext e, hc, q⟩
end
end K06
set_option Elab.async false
set_option linter.all false
set_option maxRecDepth 100000
set_option maxHeartbeats 16000000
set_option exponentiation.threshold 2048
namespace K06
open PySem PySem.Spec PyProof.Rows L2 StX GX KC KQ Evl M03 M04 M01
section
variable {P : Program} {w : World} {K : PySem.W.Frag} {mg : Str → Option Value} {base : Heap}
theorem ev_lenT {σ : L2.St} {H : Hp} {ta : TE} {p : Addr} {xs : List L2.V} (ha : Ev ta σ H (.ref p)) (h : SqT K H p xs) : Ev (tCB (rLenS K) (tCons ta tNil)) σ H (.int (xs.length : Int)) := fun H1 e Q q =>
  ha H1 e _ fun H2 e2 => ⟨p, xs, rfl, Or.inr (ex_t (e.trans e2) h), q H2 e2⟩
theorem flat {t : TS} {D : Ends} {σ σ' : L2.St} {H : Hp} (e : σ = σ') (h : t D σ' H) : t D σ H := by
  subst e
  exact h
def spLaw (K : PySem.W.Frag) (PR PC P0 P1 P2 P4 : Addr) : Sp := fun vs H Q _ => ∃ (a : Addr) (ns : List Int), vs = [.ref a] ∧ SqL K H a (ns.map L2.V.int) ∧ ns.length ≤ 63 ∧ H PR = some (TabX PR) ∧ H PC = some (TabX PC) ∧ H P0 = some (TabX P0) ∧ H P1 = some (TabX P1) ∧ H P2 = some (TabX P2) ∧ H P4 = some (TabX P4) ∧ ∀ H2, Ex H H2 → Q (.bl true) H2
theorem ok_law {f PR PC P0 P1 P2 P4 : Addr} {fd : FuncData} {k : Nat} (F : Fun K "law" "law" s_law f fd) (B : Bs mg) (B2 : Bs2 mg)
    (C_law_cell : Cal P w K mg base "_law_cell" 1 ["script", "k"] (spCell K)) (C_law_weights : Cal P w K mg base "_law_weights" 2 ["script", "first", "many"] (spWeights K))
    (C_law_least_limit : Cal P w K mg base "_law_least_limit" 1 ["many"] spLim) (C_least_lengths : Cal P w K mg base "least_lengths" 8 ["weights", "limit"] (spLL P w K PR)) (C_make_certificate : Cal P w K mg base "make_certificate" 9 ["weights", "limit"] (spMake P w K PR))
    (C_is_shown : Cal P w K mg base "is_shown" 10 ["weights", "limit", "lengths", "certificate"] (spShown P w K PC P0 P1 P2 P4)) (C_law_judged : Cal P w K mg base "_law_judged" 4 ["weights", "limit", "lengths", "certificate"] (spJudged P w K))
    (C_law_all_least : Cal P w K mg base "_law_all_least" 1 ["weights", "limit"] (spAll K)) (C_law_other : Cal P w K mg base "_law_other" 1 ["certificate", "cell", "many", "limit"] (spOther P w K)) (C_law_lengths : Cal P w K mg base "_law_lengths" 1 ["lengths", "cell", "limit"] (spLens K))
    (C_cost : Cal P w K mg base "cost" 6 ["weights", "lengths"] (spCost K PC)) : FnOk P w K mg base CX0 (k + 11) f fd ["script"] (spLaw K PR PC P0 P1 P2 P4) := by
  refine F.ok sc_law (fun vs H Q E h => ?_) (fun cdv A outer s H vs Q E hr h => ?_)
  · obtain ⟨a, ns, rfl, _⟩ := h
    rfl
  · obtain ⟨a, ns, rfl, hs, hn, tR, tC, t0, t1, t2, t4, q⟩ := h
    have hu64 := hr.units
    have hu := lt64 hr.units
    refine ⟨_, (pss_cons (ps_set (i := 1) sc_law.nd rfl (Or.inl rfl) (pe_op op_add pe_int (pe_op op_mod (pe_callC C_law_cell (hr.mono (by omega)) (by rfl) (pa_cons (pv 0) (pa_cons pe_int pa_nil))) pe_int)))
      (pss_cons (ps_set (i := 2) sc_law.nd rfl (Or.inl rfl) (pe_callC C_law_weights (hr.mono (by omega)) (by rfl) (pa_cons (pv 0) (pa_cons pe_int (pa_cons (pv 1) pa_nil)))))
      (pss_cons (ps_set (i := 3) sc_law.nd rfl (Or.inl rfl) (pe_callB (call_min2 rfl) (by rfl) B.min (by decide +kernel) (pa_cons pe_int (pa_cons (pe_op op_add (pe_callC C_law_least_limit (hr.mono (by omega)) (by rfl) (pa_cons (pv 1) pa_nil)) (pe_op op_mod (pe_callC C_law_cell (hr.mono (by omega)) (by rfl) (pa_cons (pv 0) (pa_cons pe_int pa_nil))) pe_int)) pa_nil))))
      (pss_cons (ps_set (i := 4) sc_law.nd rfl (Or.inl rfl) (pe_callC C_make_certificate (hr.mono (by omega)) (by rfl) (pa_cons (pe_callTy call_list_of (by rfl) B.list (by decide +kernel) (pa_cons (pv 2) pa_nil)) (pa_cons (pv 3) pa_nil))))
      (pss_cons (ps_if (PW.pt (pw_or (pt_not (pt_val (pe_callB call_isi (by rfl) B.isinstance (by decide +kernel) (pa_cons (pv 4) (pa_cons (pe_bltn (v := .ty "tuple") (by rfl) B2.tuple boot_tuple rfl) pa_nil))))) (pw_or (pt_cmpR op_ne (pe_callB call_len_seq (by rfl) B.len PySem.boot_len (pa_cons (pv 4) pa_nil)) pe_int (nomark _)) (pw_or1 (pt_cmpR (op_neD hu64) (pe_ix ix_tup (pv 4) pe_int (fun _ _ => rfl)) (pe_callC C_least_lengths (hr.mono (by omega)) (by rfl) (pa_cons (pv 2) (pa_cons (pv 3) pa_nil))) (nomark _)))))) (pss_one (ps_ret pe_bl)) pss_nil)
      (pss_cons (ps_if (pt_cmpR op_notBl (pe_callC C_is_shown (hr.mono (by omega)) (by rfl) (pa_cons (pe_callTy call_list_of (by rfl) B.list (by decide +kernel) (pa_cons (pv 2) pa_nil)) (pa_cons (pv 3) (pa_cons (pe_callTy call_list_of (by rfl) B.list (by decide +kernel) (pa_cons (pe_ix ix_tup (pv 4) pe_int (fun _ _ => rfl)) pa_nil)) (pa_cons (pe_ix ix_tup (pv 4) pe_int (fun _ _ => rfl)) pa_nil))))) pe_bl (nomark _)) (pss_one (ps_ret pe_bl)) pss_nil)
      (pss_cons (ps_if (pt_not (pt_val (pe_callC C_law_judged (hr.mono (by omega)) (by rfl) (pa_cons (pv 2) (pa_cons (pv 3) (pa_cons (pe_ix ix_tup (pv 4) pe_int (fun _ _ => rfl)) (pa_cons (pe_ix ix_tup (pv 4) pe_int (fun _ _ => rfl)) pa_nil))))))) (pss_one (ps_ret pe_bl)) pss_nil)
      (pss_cons (ps_set (i := 5) sc_law.nd rfl (Or.inl rfl) (pe_callC C_law_all_least (hr.mono (by omega)) (by rfl) (pa_cons (pv 2) (pa_cons (pv 3) pa_nil))))
      (pss_cons (ps_set (i := 6) sc_law.nd rfl (Or.inl rfl) (pe_callC C_law_other (hr.mono (by omega)) (by rfl) (pa_cons (pe_ix ix_tup (pv 4) pe_int (fun _ _ => rfl)) (pa_cons (pe_callC C_law_cell (hr.mono (by omega)) (by rfl) (pa_cons (pv 0) (pa_cons pe_int pa_nil))) (pa_cons (pv 1) (pa_cons (pv 3) pa_nil))))))
      (pss_cons (ps_set (i := 7) sc_law.nd rfl (Or.inl rfl) (pe_callC C_law_lengths (hr.mono (by omega)) (by rfl) (pa_cons (pe_ix ix_tup (pv 4) pe_int (fun _ _ => rfl)) (pa_cons (pe_callC C_law_cell (hr.mono (by omega)) (by rfl) (pa_cons (pv 0) (pa_cons pe_int pa_nil))) (pa_cons (pv 3) pa_nil)))))
      (pss_cons (ps_set (i := 8) sc_law.nd rfl (Or.inl rfl) (pe_callC C_law_other (hr.mono (by omega)) (by rfl) (pa_cons (pe_ix ix_tup (pv 4) pe_int (fun _ _ => rfl)) (pa_cons (pe_callC C_law_cell (hr.mono (by omega)) (by rfl) (pa_cons (pv 0) (pa_cons pe_int pa_nil))) (pa_cons (pv 1) (pa_cons (pv 3) pa_nil))))))
      (pss_cons (ps_set (i := 9) sc_law.nd rfl (Or.inl rfl) (pe_callTy call_list_of (by rfl) B.list (by decide +kernel) (pa_cons (pv 2) pa_nil)))
      (pss_cons (ps_set (i := 10) sc_law.nd rfl (Or.inl rfl) (pe_callTy call_list_of (by rfl) B.list (by decide +kernel) (pa_cons (pv 7) pa_nil)))
      (pss_cons (ps_set (i := 11) sc_law.nd rfl (Or.inl rfl) (pe_callC C_is_shown (hr.mono (by omega)) (by rfl) (pa_cons (pv 9) (pa_cons (pv 3) (pa_cons (pv 10) (pa_cons (pv 6) pa_nil))))))
      (pss_cons (ps_if (PW.pt (pw_or (pt_cmpR (op_neD hu64) (pv 9) (pv 2) (nomark _)) (pw_or1 (pt_cmpR (op_neD hu64) (pv 10) (pv 7) (nomark _))))) (pss_one (ps_ret pe_bl)) pss_nil)
      (pss_cons (ps_if (PW.pt (pw_or (pt_not (pt_val (pe_callB call_isi (by rfl) B.isinstance (by decide +kernel) (pa_cons (pv 11) (pa_cons (pe_bltn (v := .ty "bool") (by rfl) B.bool boot_bool rfl) pa_nil))))) (pw_or (pt_cmpR op_ne (pv 11) (pe_callC C_law_judged (hr.mono (by omega)) (by rfl) (pa_cons (pv 2) (pa_cons (pv 3) (pa_cons (pv 7) (pa_cons (pv 6) pa_nil))))) (nomark _)) (pw_or1 (pt_cmpR (op_neX hu64) (pv 6) (pv 8) (nomark _)))))) (pss_one (ps_ret pe_bl)) pss_nil)
      (pss_cons (ps_if (PW.pt (pw_and (pt_val (pv 11)) (pw_and1 (pt_cmpR op_ne (pe_callC C_cost (hr.mono (by omega)) (by rfl) (pa_cons (pv 2) (pa_cons (pv 7) pa_nil))) (pv 5) (nomark _))))) (pss_one (ps_ret pe_bl)) pss_nil)
      (pss_cons (ps_if (pt_cmpR op_eq (pe_op op_mod (pe_op op_fdiv (pe_callC C_law_cell (hr.mono (by omega)) (by rfl) (pa_cons (pv 0) (pa_cons pe_int pa_nil))) pe_int) pe_int) pe_int (nomark _)) (pss_cons (ps_set (i := 1) sc_law.nd rfl (Or.inl rfl) (pe_op op_add pe_int (pe_op op_mod (pe_op op_fdiv (pe_callC C_law_cell (hr.mono (by omega)) (by rfl) (pa_cons (pv 0) (pa_cons pe_int pa_nil))) pe_int) pe_int)))
      (pss_cons (ps_set (i := 12) sc_law.nd rfl (Or.inl rfl) (pe_callC C_law_weights (hr.mono (by omega)) (by rfl) (pa_cons (pv 0) (pa_cons pe_int (pa_cons (pv 1) pa_nil)))))
      (pss_cons (ps_set (i := 3) sc_law.nd rfl (Or.inl rfl) (pe_op op_add pe_int (pe_op op_mod (pe_op op_fdiv (pe_callC C_law_cell (hr.mono (by omega)) (by rfl) (pa_cons (pv 0) (pa_cons pe_int pa_nil))) pe_int) pe_int)))
      (pss_cons (ps_set (i := 9) sc_law.nd rfl (Or.inl rfl) (pe_callTy call_list_of (by rfl) B.list (by decide +kernel) (pa_cons (pv 12) pa_nil)))
      (pss_cons (ps_asg (pe_callC C_make_certificate (hr.mono (by omega)) (by rfl) (pa_cons (pv 9) (pa_cons (pv 3) pa_nil))) (pg_tup rfl (pgs_cons (pg_name (i := 7) sc_law.nd rfl (Or.inl rfl)) (pgs_cons (pg_name (i := 13) sc_law.nd rfl (Or.inl rfl)) pgs_nil))))
      (pss_cons (ps_if (PW.pt (pw_or (pt_cmpR (op_neD hu64) (pv 9) (pv 12) (nomark _)) (pw_or1 (pt_cmpR (op_neD hu64) (pv 7) (pe_callC C_least_lengths (hr.mono (by omega)) (by rfl) (pa_cons (pv 12) (pa_cons (pv 3) pa_nil))) (nomark _))))) (pss_one (ps_ret pe_bl)) pss_nil)
      (pss_cons (ps_if (PW.pt (pw_or (pt_cmpR op_notBl (pe_callC C_is_shown (hr.mono (by omega)) (by rfl) (pa_cons (pv 9) (pa_cons (pv 3) (pa_cons (pv 7) (pa_cons (pv 13) pa_nil))))) pe_bl (nomark _)) (pw_or1 (pt_cmpR (op_neD hu64) (pv 9) (pv 12) (nomark _))))) (pss_one (ps_ret pe_bl)) pss_nil)
      (pss_one (ps_if (pt_not (pt_val (pe_callC C_law_judged (hr.mono (by omega)) (by rfl) (pa_cons (pv 12) (pa_cons (pv 3) (pa_cons (pv 7) (pa_cons (pv 13) pa_nil))))))) (pss_one (ps_ret pe_bl)) pss_nil))))))))) pss_nil)
      (pss_one (ps_ret (pe_cmpR op_eq (pe_callC C_cost (hr.mono (by omega)) (by rfl) (pa_cons (pv 2) (pa_cons (pe_ix ix_tup (pv 4) pe_int (fun _ _ => rfl)) pa_nil))) (pv 5) (nomark _)))))))))))))))))))))), ?_⟩
    -- many
    obtain ⟨n, hn2, hn5, en⟩ : ∃ n : Nat, 2 ≤ n ∧ n ≤ 5 ∧ 2 + cellOf ns 0 % 4 = (n : Int) := ⟨(2 + cellOf ns 0 % 4).toNat, by omega, by omega, by omega⟩
    refine q_asg (v := .int (n : Int)) (ev_is (ev_add ev_c (ev_op (ev_call (ea2 (ev_var rfl) ev_c) (spv_cell (j := 0) hs rfl)) ev_c (rv_mod (by decide)))) (by rw [en])) fun H1 e1 => ?_
    have hs1 := ex_l e1 hs
    refine q_asgL (el_call (ea3 (ev_var rfl) ev_c (ev_var rfl)) (sp_weights (f := 2) (n := n) hs1 (by omega) rfl rfl)) fun pw H2 hpw e2 h2 => ?_
    have wfacts : ∀ (f n : Nat), (weightsL ns f n).length = n ∧ (∀ i, i < (weightsL ns f n).length → 0 ≤ (weightsL ns f n).getD i 0 ∧ (weightsL ns f n).getD i 0 ≤ 1000000) ∧ ∀ v ∈ weightsL ns f n, 0 ≤ v := fun f n => by
      have hl : (weightsL ns f n).length = n := weightsL_len ns f n
      have hb : ∀ i, i < (weightsL ns f n).length → 0 ≤ (weightsL ns f n).getD i 0 ∧ (weightsL ns f n).getD i 0 ≤ 1000000 := fun i hi => by
        rw [hl] at hi
        rw [weightsL_at hi]
        exact weightOf_bd _
      refine ⟨hl, hb, fun v hv => ?_⟩
      obtain ⟨i, hi, rfl⟩ := List.mem_iff_getElem.mp hv
      have := (hb i hi).1
      rwa [List.getD_eq_getElem?_getD, List.getElem?_eq_getElem hi] at this
    obtain ⟨hwl, hwb, hnn⟩ := wfacts 2 n
    generalize hws : weightsL ns 2 n = ws at h2 hwl hwb hnn
    have hne : ws ≠ [] := fun z => by rw [z] at hwl; simp at hwl; omega
    have hs2 := ex_l e2 hs1
    -- limit
    have hlim := llim_ok (n := n) (by omega)
    obtain ⟨L, hL1, hL4, hLf, eL⟩ : ∃ L : Nat, 1 ≤ L ∧ L ≤ 4 ∧ n ≤ 2 ^ L ∧ (if ((llim n : Nat) : Int) + cellOf ns 1 % 3 < 4 then ((llim n : Nat) : Int) + cellOf ns 1 % 3 else 4) = (L : Int) := by
      by_cases z : ((llim n : Nat) : Int) + cellOf ns 1 % 3 < 4
      · exact ⟨(((llim n : Nat) : Int) + cellOf ns 1 % 3).toNat, by omega, by omega, fits (by omega) (.inl (by omega)), by rw [if_pos z]; omega⟩
      · exact ⟨4, by omega, by omega, fits (by omega) (.inr (by omega)), by rw [if_neg z]; rfl⟩
    refine q_asg (v := .int (L : Int)) (ev_is (ev_min ev_c (ev_add (ev_call (ea1 (ev_var rfl)) sp_lim) (ev_op (ev_call (ea2 (ev_var rfl) ev_c) (spv_cell (j := 1) hs2 rfl)) ev_c (rv_mod (by decide))))) (by rw [eL])) fun H3 e3 => ?_
    have hw3 : SqL K H3 pw (ws.map L2.V.int) := sq_of (e3 _ _ h2)
    have e03 := (e1.trans e2).trans e3
    obtain ⟨v, hv⟩ := first_some (ws := ws) (L := L) hL1 hne hnn (by rw [hwl]; exact hLf)
    have hv : M04.V (sumsL ws) L (0, 0, 1) = some v := hv
    have win : ∀ {H' : Hp} {p : Addr}, H' p = some (.lst (ws.map L2.V.int)) → WIn K ws L p H' := fun h => ⟨sq_of h, by omega, by omega, hL1, by omega⟩
    have hll : (lensW ws L).length = ws.length := by
      obtain ⟨F, hF, hg⟩ := lens_good hL1 hne hv
      rw [hF]
      unfold asI
      rw [List.length_map, hg.len]
    -- found
    refine q_asgP (ep_callN (R := RMake P w K ws L) (el_listOf (ev_var rfl) hw3) (ev_var rfl) fun p H' e' hp' => sp_make (win hp') hv ((e03.trans e') _ _ tR)) fun vt H4 e4 ⟨tt, pf, dc, ss, ev, hrs, hsl, hpf, hdc, htt⟩ => ?_
    subst ev
    have hin := certP_in hL1 (by omega) (by omega) hrs hsl
    have hcs := cert_shown hL1 (by omega) (by omega) (by omega) hnn hrs hsl hv
    have e04 := e03.trans e4
    have hw4 : H4 pw = some (.lst (ws.map L2.V.int)) := (e3.trans e4) _ _ h2
    have ttS : ∀ {H'}, Ex H4 H' → SqT K H' tt [.ref pf, .ref dc] := fun e => st_of (e _ _ htt)
    refine flat (σ' := [some (.ref a), some (.int (n : Int)), some (.ref pw), some (.int (L : Int)), some (.ref tt), none, none, none, none, none, none, none, none, none]) rfl ?_
    refine q_when (b := false) (et_is (et_or (et_not (et_B (ev_isi (K := K) (b := true) (ev_var (v := .ref tt) rfl) (fun H1 e => .base (.tup (e _ _ htt))) (kit_ty (by decide +kernel))))) fun _ => et_or (et_test (ev_ne (i := 2) (j := 2) (ev_is (ev_lenT (ev_var rfl) (ttS (Ex.refl _))) rfl) ev_c))
      fun _ => et_test (ev_neD (d := .list ((lensW ws L).map PyData.int)) (d2 := .list ((lensW ws L).map PyData.int)) (ed_at (ev_op (ev_var rfl) ev_c (rv_ixT (ttS (Ex.refl _)) rfl)) (dp_listI (sq_of hpf))) (ed_listI (el_call (ea2 (ev_var rfl) (ev_var rfl)) (sp_ll (win hw4) hv (e04 _ _ tR)))) (shaped_ints _) (shaped_ints _))) (by rw [eqv_ints]; rfl)) (fun z => by cases z) (fun _ H5 e5 => ?_)
    have e05 := e04.trans e5
    -- is_shown of the own certificate
    refine q_when (b := false) (et_is (et_test (ev_op (ev_callLL (el_listOf (ev_var rfl) (sq_of (e5 _ _ hw4))) (ev_var rfl) (el_listOf (ev_op (ev_var rfl) ev_c (rv_ixT (ttS e5) rfl)) (sq_of (e5 _ _ hpf))) (ev_op (ev_var rfl) ev_c (rv_ixT (ttS e5) rfl)) fun p r H' e' hp' hr' => sp_shown (win hp') (sq_of hr') (by omega) hwb (hdc.ext (e5.trans e')) hin ((e05.trans e') _ _ tC) ((e05.trans e') _ _ t0) ((e05.trans e') _ _ t1) ((e05.trans e') _ _ t2) ((e05.trans e') _ _ t4)) ev_c rv_notB)) (by rw [hcs]; rfl)) (fun z => by cases z) (fun _ H6 e6 => ?_)
    have e46 := e5.trans e6
    have e06 := e05.trans e6
    refine q_when (b := false) (et_is (et_not (et_B (ev_call (ea_cons (ev_var rfl) (ea3 (ev_var rfl) (ev_op (ev_var rfl) ev_c (rv_ixT (ttS e46) rfl)) (ev_op (ev_var rfl) ev_c (rv_ixT (ttS e46) rfl)))) (sp_judged (win (e46 _ _ hw4)) (sq_of (e46 _ _ hpf)) (by omega) hwb (hdc.ext e46) hin)))) (by rw [hcs]; rfl)) (fun z => by cases z) (fun _ H7 e7 => ?_)
    have e47 := e46.trans e7
    have e07 := e06.trans e7
    -- least
    refine q_asg (v := .int v) (ev_call (ea2 (ev_var rfl) (ev_var rfl)) fun Ha ea Q q E => ⟨pw, ws, L, rfl, win ((e47.trans ea) _ _ hw4), hL4, by omega, hwb, by
      rw [best_all hL1 hne hnn hv]
      exact q⟩) fun H8 e8 => ?_
    have e48 := e47.trans e8
    have e08 := e07.trans e8
    have hpl : (certP ws L ss).length ≤ 20000 := by
      unfold certP
      rw [List.length_map, List.length_reverse]
      exact Nat.le_trans (few (by omega) (by omega) (by rw [nN_sums]; omega) (by rw [nN_sums]; omega) hrs.nd fun s hs => (hrs.iff s).mp hs) (by decide)
    have hpne : certP ws L ss ≠ [] := fun z => by
      have : ss ≠ [] := List.ne_nil_of_mem ((hrs.iff _).mpr .first)
      unfold certP at z
      exact this (List.reverse_eq_nil_iff.mp (List.map_eq_nil_iff.mp z))
    have sp_oth : ∀ {H' : Hp} {E : XK}, Ex H4 H' → ∀ Q : VK, (∀ v H2, Ex H' H2 → (∃ d W, v = .ref d ∧ Sorted (certP ws L ss) W ∧ DAt P w K H2 d ((otherC (cellOf ns 7) L n W).map entC)) → Q v H2) → spOther P w K ([.ref dc, .int (cellOf ns 7), .int (n : Int), .int (L : Int)] ++ []) H' Q E := fun e Q q =>
      ⟨dc, certP ws L ss, cellOf ns 7, n, L, rfl, hdc.ext e, hin.nd, hpne, hpl, by omega, by omega, by omega, fun d W H2 hd e2 hW hda => q _ H2 e2 ⟨d, W, rfl, hW, hda⟩⟩
    refine q_asgP (ep_call (ea_cons (ev_op (ev_var rfl) ev_c (rv_ixT (ttS e48) rfl)) (ea3 (ev_call (ea2 (ev_var rfl) ev_c) (spv_cell (j := 7) (ex_l e08 hs) rfl)) (ev_var rfl) (ev_var rfl))) fun H' e' Q q => sp_oth (e48.trans e') Q q) fun vo H9 e9 ⟨od, W, ev, hW, hod⟩ => ?_
    subst ev
    have e49 := e48.trans e9
    have e09 := e08.trans e9
    have hoin := otherC_in (n := n) (L := L) (c := cellOf ns 7) hL1 (by omega) (by omega) (by rw [nN_sums, hwl]) hin hpl hW
    refine flat (σ' := [some (.ref a), some (.int (n : Int)), some (.ref pw), some (.int (L : Int)), some (.ref tt), some (.int v), some (.ref od), none, none, none, none, none, none, none]) rfl ?_
    -- lengths
    refine q_asgP (ep_call (R := fun v H2 => ∃ p ls, v = .ref p ∧ H2 p = some (.lst ((ls : List Int).map L2.V.int)) ∧ ls.length ≤ 100) (ea3 (ev_op (ev_var rfl) ev_c (rv_ixT (ttS e49) rfl)) (ev_call (ea2 (ev_var rfl) ev_c) (spv_cell (j := 8) (ex_l e09 hs) rfl)) (ev_var rfl)) fun H' e' Q q => ⟨pf, lensW ws L, cellOf ns 8, L, rfl, sq_of ((e49.trans e') _ _ hpf), by omega, by omega, fun p ls' H2 hp e2 h2 hl => q _ H2 e2 ⟨p, ls', rfl, h2, hl⟩⟩) fun vl H10 e10 ⟨pl, ls, ev, hpl2, hlsl⟩ => ?_
    subst ev
    have e410 := e49.trans e10
    have e010 := e09.trans e10
    -- kept
    refine q_asgP (ep_call (ea_cons (ev_op (ev_var rfl) ev_c (rv_ixT (ttS e410) rfl)) (ea3 (ev_call (ea2 (ev_var rfl) ev_c) (spv_cell (j := 7) (ex_l e010 hs) rfl)) (ev_var rfl) (ev_var rfl))) fun H' e' Q q => sp_oth (e410.trans e') Q q) fun vk H11 e11 ⟨kd, W2, ev, hW2, hkd⟩ => ?_
    subst ev
    rw [← hW.eq hin.nd hW2] at hkd
    have e411 := e410.trans e11
    refine flat (σ' := [some (.ref a), some (.int (n : Int)), some (.ref pw), some (.int (L : Int)), some (.ref tt), some (.int v), some (.ref od), some (.ref pl), some (.ref kd), none, none, none, none, none]) rfl ?_
    -- given, handed
    refine q_asgL (el_listOf (ev_var rfl) (sq_of (e411 _ _ hw4))) fun pg H12 hpg e12 h12 => ?_
    refine q_asgL (el_listOf (ev_var rfl) (sq_of ((e11.trans e12) _ _ hpl2))) fun ph H13 hph e13 h13 => ?_
    have e413 := (e411.trans e12).trans e13
    have e013 := e04.trans e413
    have g13 := e13 _ _ h12
    have o13 := hod.ext (((e10.trans e11).trans e12).trans e13)
    have k13 := hkd.ext (e12.trans e13)
    -- told
    refine q_asg (v := .bl (shownB ws L ls (otherC (cellOf ns 7) L n W))) (ev_call (ea_cons (ev_var rfl) (ea3 (ev_var rfl) (ev_var rfl) (ev_var rfl))) (sp_shown (win g13) (sq_of h13) hlsl hwb o13 hoin (e013 _ _ tC) (e013 _ _ t0) (e013 _ _ t1) (e013 _ _ t2) (e013 _ _ t4))) fun H14 e14 => ?_
    refine flat (σ' := [some (.ref a), some (.int (n : Int)), some (.ref pw), some (.int (L : Int)), some (.ref tt), some (.int v), some (.ref od), some (.ref pl), some (.ref kd), some (.ref pg), some (.ref ph), some (.bl (shownB ws L ls (otherC (cellOf ns 7) L n W))), none, none]) rfl ?_
    have e414 := e413.trans e14
    have w14 := e414 _ _ hw4
    have l14 := (((e11.trans e12).trans e13).trans e14) _ _ hpl2
    refine q_when (b := false) (et_is (et_or (et_test (ev_neD (d := .list (ws.map PyData.int)) (d2 := .list (ws.map PyData.int)) (ed_at (ev_var rfl) (dp_listI (sq_of (e14 _ _ g13)))) (ed_at (ev_var rfl) (dp_listI (sq_of w14))) (shaped_ints _) (shaped_ints _)))
      fun _ => et_test (ev_neD (d := .list (ls.map PyData.int)) (d2 := .list (ls.map PyData.int)) (ed_at (ev_var rfl) (dp_listI (sq_of (e14 _ _ h13)))) (ed_at (ev_var rfl) (dp_listI (sq_of l14))) (shaped_ints _) (shaped_ints _))) (by rw [eqv_ints, eqv_ints]; rfl)) (fun z => by cases z) (fun _ H15 e15 => ?_)
    have e415 := e414.trans e15
    have o15 := (o13.ext e14).ext e15
    have k15 := (k13.ext e14).ext e15
    have nokeys : ∀ p ∈ (otherC (cellOf ns 7) L n W).map entC, valV ((otherC (cellOf ns 7) L n W).map entC) p.1 = some p.2 ∧ inB p.2 = true := fun p hp => by
      obtain ⟨x, hx, rfl⟩ := List.mem_map.mp hp
      refine ⟨?_, rfl⟩
      show valV _ (keyS x.1) = some (.int x.2)
      rw [cert_val, cert_of_mem hoin.nd x hx]
      rfl
    refine q_when (b := false) (et_is (et_or (et_not (et_B (ev_isi (K := K) (b := true) (ev_var (v := .bl (shownB ws L ls (otherC (cellOf ns 7) L n W))) rfl) (fun H1 e => .base (.bl _)) (kit_ty (by decide +kernel))))) fun _ => et_or (et_test (ev_op (ev_var rfl) (ev_call (ea_cons (ev_var rfl) (ea3 (ev_var rfl) (ev_var rfl) (ev_var rfl))) (sp_judged (win (e15 _ _ w14)) (sq_of (e15 _ _ l14)) hlsl hwb o15 hoin)) (rv_ne rfl)))
      fun _ => et_test (ev_neX (ev_var rfl) (ev_var rfl) o15 k15 rfl nokeys)) (by simp)) (fun z => by cases z) (fun _ H16 e16 => ?_)
    have e416 := e415.trans e16
    have w16 := e416 _ _ hw4
    have l16 := (e15.trans e16) _ _ l14
    have e016 := e04.trans e416
    have t16 : H16 PC = some (TabX PC) := e016 _ _ tC
    have hl20 : ∀ {ws : List Int} {L : Nat} {v : Int}, 1 ≤ L → L ≤ 16 → ws ≠ [] → M04.V (sumsL ws) L (0, 0, 1) = some v → (lensW ws L).length = ws.length ∧ costI ws (lensW ws L) = v ∧ ∀ i, i < ws.length → 0 ≤ (lensW ws L).getD i 0 ∧ (lensW ws L).getD i 0 ≤ 20 := fun {ws L v} h1 h2 h3 h4 => by
      obtain ⟨F, hF, hg⟩ := lens_good h1 h3 h4
      rw [hF]
      refine ⟨by unfold asI; rw [List.length_map, hg.len], hg.co, asI_bd hg.len hg.bd (by omega)⟩
    refine q_when (b := false) ?_ (fun z => by cases z) (fun _ H17 e17 => ?_)
    · cases hsb : shownB ws L ls (otherC (cellOf ns 7) L n W) with
      | false => exact et_is (et_and (a := false) (b := false) (et_B (ev_var rfl)) (fun z => by cases z)) rfl
      | true =>
        obtain ⟨q1, q2, _, _, _, _⟩ := shown_parts (by omega) (by omega) hsb
        have hbest := shown_best (by omega) hL1 (by omega) hnn hoin hsb
        rw [best_all hL1 hne hnn hv] at hbest
        have hcv : costI ws ls = v := (Option.some.inj hbest).symm
        exact et_is (et_and (a := true) (b := false) (et_B (ev_var rfl)) (fun _ => et_is (et_test (ev_ne (i := v) (j := v) (ev_call (ea2 (ev_var rfl) (ev_var rfl)) (spv_cost (sq_of w16) (sq_of l16) q1.symm (by omega) t16 hwb q2 hcv)) (ev_var rfl))) (by simp))) rfl
    have e417 := e416.trans e17
    have e017 := e04.trans e417
    obtain ⟨q3, q4, q5⟩ := hl20 hL1 (by omega) hne hv
    refine q_mid (fun σ H' => ∃ b1 b3 b7 b9 b12 b13 : Option L2.V, σ = [some (.ref a), b1, some (.ref pw), b3, some (.ref tt), some (.int v), some (.ref od), b7, some (.ref kd), b9, some (.ref ph), some (.bl (shownB ws L ls (otherC (cellOf ns 7) L n W))), b12, b13] ∧ Ex H17 H') (et_test (ev_eq (ev_op (ev_op (ev_call (ea2 (ev_var rfl) ev_c) (spv_cell (j := 1) (ex_l e017 hs) rfl)) ev_c (rv_div (by decide) (by decide))) ev_c (rv_mod (by decide))) ev_c)) (fun hb H18 e18 D' nx => ?_) (fun hb H18 e18 => ⟨_, _, _, _, _, _, rfl, e18⟩) fun σ18 H18 m18 => ?_
    · have e418 := e417.trans e18
      have e018 := e04.trans e418
      obtain ⟨m, hm6, hm11, em⟩ : ∃ m : Nat, 6 ≤ m ∧ m ≤ 11 ∧ 6 + cellOf ns 1 / 18 % 6 = (m : Int) := ⟨(6 + cellOf ns 1 / 18 % 6).toNat, by omega, by omega, by omega⟩
      obtain ⟨M, hM4, hM7, eM⟩ : ∃ M : Nat, 4 ≤ M ∧ M ≤ 7 ∧ 4 + cellOf ns 1 / 108 % 4 = (M : Int) := ⟨(4 + cellOf ns 1 / 108 % 4).toNat, by omega, by omega, by omega⟩
      refine q_asg (v := .int (m : Int)) (ev_is (ev_add ev_c (ev_op (ev_op (ev_call (ea2 (ev_var rfl) ev_c) (spv_cell (j := 1) (ex_l e018 hs) rfl)) ev_c (rv_div (by decide) (by decide))) ev_c (rv_mod (by decide)))) (by rw [em])) fun H19 e19 => ?_
      have e019 := e018.trans e19
      refine q_asgL (el_call (ea3 (ev_var rfl) ev_c (ev_var rfl)) (sp_weights (f := 9) (n := m) (ex_l e019 hs) (by omega) rfl rfl)) fun pm H20 hpm e20 h20 => ?_
      obtain ⟨xl, xb, xn⟩ := wfacts 9 m
      generalize weightsL ns 9 m = xs at h20 xl xb xn
      have e020 := e019.trans e20
      have xne : xs ≠ [] := fun z => by rw [z] at xl; simp at xl; omega
      have hM16 : 16 ≤ 2 ^ M := Nat.le_trans (by decide) (Nat.pow_le_pow_right (by decide) hM4)
      obtain ⟨u, hu2⟩ := first_some (ws := xs) (L := M) (by omega) xne xn (by omega)
      have hu2 : M04.V (sumsL xs) M (0, 0, 1) = some u := hu2
      obtain ⟨x1, x2, x3⟩ := hl20 (ws := xs) (L := M) (by omega) (by omega) xne hu2
      have winx : ∀ {H' : Hp} {p : Addr}, H' p = some (.lst (xs.map L2.V.int)) → WIn K xs M p H' := fun h => ⟨sq_of h, by omega, by omega, by omega, by omega⟩
      refine q_asg (v := .int (M : Int)) (ev_is (ev_add ev_c (ev_op (ev_op (ev_call (ea2 (ev_var rfl) ev_c) (spv_cell (j := 1) (ex_l e020 hs) rfl)) ev_c (rv_div (by decide) (by decide))) ev_c (rv_mod (by decide)))) (by rw [eM])) fun H21 e21 => ?_
      refine flat (σ' := [some (.ref a), some (.int (m : Int)), some (.ref pw), some (.int (M : Int)), some (.ref tt), some (.int v), some (.ref od), some (.ref pl), some (.ref kd), some (.ref pg), some (.ref ph), some (.bl (shownB ws L ls (otherC (cellOf ns 7) L n W))), some (.ref pm), none]) rfl ?_
      refine q_asgL (el_listOf (ev_var rfl) (sq_of (e21 _ _ h20))) fun pv H22 hpv e22 h22 => ?_
      have e022 := (e020.trans e21).trans e22
      have m22 := (e21.trans e22) _ _ h20
      refine q_unpX (ea2 (ev_var rfl) (ev_var rfl)) fun Ha ea => sp_make (winx (ea _ _ h22)) hu2 ((e022.trans ea) _ _ tR) _ fun vt2 H23 eb ⟨tx, px, dx, sx, ev, rsx, slx, hpx, hdx, htx⟩ => ?_
      subst ev
      refine g_two (st_of htx) ?_
      refine flat (σ' := [some (.ref a), some (.int (m : Int)), some (.ref pw), some (.int (M : Int)), some (.ref tt), some (.int v), some (.ref od), some (.ref px), some (.ref kd), some (.ref pv), some (.ref ph), some (.bl (shownB ws L ls (otherC (cellOf ns 7) L n W))), some (.ref pm), some (.ref dx)]) rfl ?_
      have e23 := ea.trans eb
      have e023 := e022.trans e23
      have inx := certP_in (ws := xs) (L := M) (by omega) (by omega) (by omega) rsx slx
      have csx := cert_shown (ws := xs) (L := M) (by omega) (by omega) (by omega) (by omega) xn rsx slx hu2
      have g23 := e23 _ _ h22
      have m23 := e23 _ _ m22
      refine q_when (b := false) (et_is (et_or (et_test (ev_neD (d := .list (xs.map PyData.int)) (d2 := .list (xs.map PyData.int)) (ed_at (ev_var rfl) (dp_listI (sq_of g23))) (ed_at (ev_var rfl) (dp_listI (sq_of m23))) (shaped_ints _) (shaped_ints _)))
        fun _ => et_test (ev_neD (d := .list ((lensW xs M).map PyData.int)) (d2 := .list ((lensW xs M).map PyData.int)) (ed_at (ev_var rfl) (dp_listI (sq_of hpx))) (ed_listI (el_call (ea2 (ev_var rfl) (ev_var rfl)) (sp_ll (winx m23) hu2 (e023 _ _ tR)))) (shaped_ints _) (shaped_ints _))) (by rw [eqv_ints, eqv_ints]; rfl)) (fun z => by cases z) (fun _ H24 e24 => ?_)
      have e024 := e023.trans e24
      refine q_when (b := false) (et_is (et_or (et_test (ev_op (ev_call (ea_cons (ev_var rfl) (ea3 (ev_var rfl) (ev_var rfl) (ev_var rfl))) (sp_shown (winx (e24 _ _ g23)) (sq_of (e24 _ _ hpx)) (by omega) xb (hdx.ext e24) inx (e024 _ _ tC) (e024 _ _ t0) (e024 _ _ t1) (e024 _ _ t2) (e024 _ _ t4))) ev_c rv_notB))
        fun _ => et_test (ev_neD (d := .list (xs.map PyData.int)) (d2 := .list (xs.map PyData.int)) (ed_at (ev_var rfl) (dp_listI (sq_of (e24 _ _ g23)))) (ed_at (ev_var rfl) (dp_listI (sq_of (e24 _ _ m23)))) (shaped_ints _) (shaped_ints _))) (by rw [csx, eqv_ints]; rfl)) (fun z => by cases z) (fun _ H25 e25 => ?_)
      have e2325 := e24.trans e25
      refine s_when (b := false) (et_is (et_not (et_B (ev_call (ea_cons (ev_var rfl) (ea3 (ev_var rfl) (ev_var rfl) (ev_var rfl))) (sp_judged (winx (e2325 _ _ m23)) (sq_of (e2325 _ _ hpx)) (by omega) xb (hdx.ext e2325) inx)))) (by rw [csx]; rfl)) (fun z => by cases z) (fun _ H26 e26 => nx _ _ ⟨_, _, _, _, _, _, rfl, (((((e18.trans e19).trans e20).trans e21).trans e22).trans e23).trans (e2325.trans e26)⟩)
    · obtain ⟨b1, b3, b7, b9, b12, b13, rfl, e18⟩ := m18
      have e418 := e417.trans e18
      have e018 := e04.trans e418
      refine s_ret (ev_is (ev_eq (i := v) (j := v) (ev_call (ea2 (ev_var rfl) (ev_op (ev_var rfl) ev_c (rv_ixT (ttS e418) rfl))) (spv_cost (sq_of (e418 _ _ hw4)) (sq_of (e418 _ _ hpf)) q3.symm (by omega) (e018 _ _ tC) hwb q5 q4)) (ev_var rfl)) (by simp)) fun H19 e19 => q H19 (e018.trans e19)
end
end K06
set_option Elab.async false
set_option linter.all false
set_option maxRecDepth 100000
set_option maxHeartbeats 4000000
/-! The end of a law: the head's heap, the script, tables of code objects followed as TabX. -/
namespace KC
open PySem PySem.Spec PyProof.Rows L2 GX Evl
def tabO : Obj := { cls := .none, data := .fields #[] }
/-- tables that stand empty in h, out of the frozen part, of known code objects -/
structure Tbs (K : PySem.W.Frag) (h : Heap) (cs : List (Addr × Addr)) : Prop where
  emp : ∀ p ∈ cs, h.get? p.2 = some tabO
  out : ∀ p ∈ cs, K.lookup p.2 = none
  cod : ∀ p ∈ cs, PySem.W.CodeHd h p.1 p.2
structure Hd0 (K : PySem.W.Frag) (mg mb : Str → Option Value) (s : Shared) : Prop where
  kin : K.In s.heap
  glo : s.heap.Ns mainGlobals mg
  blt : s.heap.Ns builtinsNs mb
  boo : ∀ y : Str, y ≠ "__name__" → mb y = bootBuiltins y
  lim : s.heap.NoLimit
  gen : s.gens = #[]
  bmo : ∃ (bm : Addr) (o : Obj), mg "__builtins__" = some (.ref bm) ∧ bm ≠ builtinsNs ∧ s.heap.get? bm = some o ∧ o.cls = .type "module" ∧ o.dict = some builtinsNs ∧ o.data = .plain
/-- the start: the tables, and the script where it is not frozen -/
def H0 (cs : List (Addr × Addr)) (a : Addr) (u : Option HO) : Hp := fun b => if b ∈ cs.map Prod.snd then some (TabX b) else if b = a then u else none
theorem h0_tab {cs : List (Addr × Addr)} {a b : Addr} {u : Option HO} (m : b ∈ cs.map Prod.snd) : H0 cs a u b = some (TabX b) := if_pos m
theorem h0_a {cs : List (Addr × Addr)} {a : Addr} {u : Option HO} (m : a ∉ cs.map Prod.snd) : H0 cs a u a = u := (if_neg m).trans (if_pos rfl)
theorem h0_no {cs : List (Addr × Addr)} {a b : Addr} {u : Option HO} (m : b ∉ cs.map Prod.snd) (n : b ≠ a) : H0 cs a u b = none := (if_neg m).trans (if_neg n)
section
variable {P : Program} {w : World} {K : PySem.W.Frag} {mg mb : Str → Option Value} {CX : CXT} {s : Shared} {cs : List (Addr × Addr)} {a : Addr} {u : Option HO} {vs : List Value}
theorem Tbs.at_ {h : Heap} (T : Tbs K h cs) {b : Addr} (m : b ∈ cs.map Prod.snd) : h.get? b = some tabO := by
  obtain ⟨p, hp, rfl⟩ := List.mem_map.mp m
  exact T.emp p hp
/-- an object that is neither a list nor a table is not followed -/
theorem h0_free (T : Tbs K s.heap cs) (ha : s.heap.get? a = some { cls := .type "list", data := .seq vs.toArray }) {b : Addr} {o : Obj} (e : s.heap.get? b = some o) (d1 : ∀ xs k, o.data ≠ .seq xs k) (d2 : o.data ≠ .fields #[]) : H0 cs a u b = none := by
  refine h0_no (fun m => ?_) fun z => ?_
  · have q := T.at_ m
    rw [e] at q
    exact d2 (by rw [Option.some.inj q] <;> rfl)
  · subst z
    rw [e] at ha
    exact d1 _ _ (congrArg Obj.data (Option.some.inj ha))
theorem dict_free {o : Obj} {es : Array DictEntry} {ep : Nat} (d : o.data = .dict es ep) : (∀ xs k, o.data ≠ .seq xs k) ∧ o.data ≠ .fields #[] := by
  rw [d]
  exact ⟨fun _ _ z => (nomatch z), fun z => (nomatch z)⟩
theorem plain_free {o : Obj} (d : o.data = .plain) : (∀ xs k, o.data ≠ .seq xs k) ∧ o.data ≠ .fields #[] := by
  rw [d]
  exact ⟨fun _ _ z => (nomatch z), fun z => (nomatch z)⟩
/-- the ground under the law's def -/
structure Grd (P : Program) (w : World) (K : PySem.W.Frag) (mg : Str → Option Value) (cs : List (Addr × Addr)) (H : Hp) (s : Shared) : Prop where
  env : Env0 P w K mg (hidT s.heap H) callerA [] s H
  kin : K.In (hidT s.heap H)
  glo : (hidT s.heap H).Ns mainGlobals mg
  tab : ∀ p ∈ cs, GxR.TabB (hidT s.heap H) mg p.1 p.2
theorem grd_of (D : Hd0 K mg mb s) (T : Tbs K s.heap cs) (ha : s.heap.get? a = some { cls := .type "list", data := .seq vs.toArray }) (hu : u ≠ none → K.lookup a = none) (ok : HOk P w (H0 cs a u) s.heap) : Grd P w K mg cs (H0 cs a u) s := by
  have down : ∀ {b : Addr} {o : Obj}, s.heap.get? b = some o → (∀ xs k, o.data ≠ .seq xs k) ∧ o.data ≠ .fields #[] → (hidT s.heap (H0 cs a u)).get? b = some o := fun e d => hidT_get e (h0_free T ha e d.1 d.2)
  have ns : ∀ {b : Addr} {m : Str → Option Value}, s.heap.Ns b m → (hidT s.heap (H0 cs a u)).Ns b m := fun x => by
    obtain ⟨o, es, ep, e, d, r⟩ := x
    exact ⟨o, es, ep, down e (dict_free d), d, r⟩
  have kin : K.In (hidT s.heap (H0 cs a u)) := fun b o e => by
    refine hidT_get (D.kin b o e) ?_
    by_cases m : b ∈ cs.map Prod.snd
    · obtain ⟨p, hp, rfl⟩ := List.mem_map.mp m
      rw [T.out p hp] at e
      cases e
    · by_cases z : b = a
      · subst z
        rw [h0_a m]
        cases hu1 : u with
        | none => rfl
        | some v =>
          rw [hu (by rw [hu1]; exact Option.some_ne_none v)] at e
          cases e
      · exact h0_no m z
  refine ⟨⟨rfl, ⟨kin, ns D.glo, ⟨mb, ns D.blt, D.boo⟩, ?_⟩, fun b o e => of_hidT e, Nat.le_of_eq (hidT_size _ _), trivial, fun b hb => absurd (show b ∈ ([] : List Addr) from hb) List.not_mem_nil, ok, .of_eq D.gen⟩, kin, ns D.glo, fun p hp => ⟨?_, ?_, fun z => ?_⟩⟩
  · obtain ⟨mc, n1, n2⟩ := D.lim
    exact ⟨mc, ns n1, n2⟩
  · obtain ⟨o, us, f1, f2, f3, f4, f5, f6, f7, e, c1, c2, c3, rest⟩ := T.cod p hp
    refine ⟨o, us, f1, f2, f3, f4, f5, f6, f7, down e ?_, c1, c2, c3, rest⟩
    rw [c2]
    refine ⟨fun _ _ z => (nomatch z), fun z => ?_⟩
    have z' : us = #[] := by injection z
    rw [z'] at c3
    simp at c3
  · obtain ⟨bm, o, b1, b2, b3, b4, b5, b6⟩ := D.bmo
    have g1 : bm ≠ mainGlobals := fun z => by
      obtain ⟨og, es, ep, e, d, _⟩ := D.glo
      rw [← z, b3] at e
      rw [← Option.some.inj e, b6] at d
      cases d
    have g2 : bm ≠ p.2 := fun z => by
      have q := T.emp p hp
      rw [← z, b3] at q
      rw [Option.some.inj q] at b6
      cases b6
    exact ⟨bm, o, b1, b2, g1, g2, down b3 (plain_free b6), b4, b5, b6⟩
  · obtain ⟨og, es, ep, e, d, _⟩ := D.glo
    have q := T.emp p hp
    rw [← z, e] at q
    rw [Option.some.inj q] at d
    cases d
/-- the law is called with its script -/
theorem law_callX {k : Nat} {fa : Addr} {fd : FuncData} {x : Str} {sp : Sp} {ns : List Int} (D : Hd0 K mg mb s) (T : Tbs K s.heap cs) (ha : s.heap.get? a = some { cls := .type "list", data := .seq vs.toArray }) (hi : IntsAre vs ns) (hl : ns.length ≤ sizeLine) (hr : Room k callerA)
    (ok : ∀ base : Heap, K.In base → base.Ns mainGlobals mg → (∀ p ∈ cs, GxR.TabB base mg p.1 p.2) → FnOk P w K mg base CX k fa fd [x] sp) (bd : ∀ (s : Shared) (v : Value), BindsTo s fd ⟨[v], []⟩ [(x, v)])
    (hsp : ∀ H : Hp, (∀ p ∈ cs, H p.2 = some (TabX p.2)) → SqL K H a (ns.map V.int) → sp [.ref a] H (fun v H' => v = .bl true ∧ ∀ p ∈ cs, H' p.2 = some (TabX p.2)) fun _ _ _ => False)
    (hx : ∀ H e s', CX [] H s (fun _ _ _ => False) e s' → False) :
    codeAny (model P w) callerA (.call (.ref fa) ⟨[.ref a], []⟩) (fun r s' => r = .ok (.ret (.bool true)) ∧ OldK s.heap s'.heap ∧ s'.os = s.os ∧ AllBare s'.gens) s := by
  have rv := vals_ints hi
  have anot : a ∉ cs.map Prod.snd := fun m => by
    have q := T.at_ m
    rw [ha] at q
    have q2 := congrArg Obj.data (Option.some.inj q)
    cases q2
  have tabs : ∀ {u : Option HO}, ∀ p ∈ cs, H0 cs a u p.2 = some (TabX p.2) := fun p hp => h0_tab (List.mem_map.mpr ⟨p, hp, rfl⟩)
  -- whatever is followed of the script
  have go : ∀ u : Option HO, (u = none ∨ u = some (.frz { cls := .type "list", data := .seq vs.toArray } (.lst (ns.map V.int)))) → (u ≠ none → K.lookup a = none) → SqL K (H0 cs a u) a (ns.map V.int) →
      codeAny (model P w) callerA (.call (.ref fa) ⟨[.ref a], []⟩) (fun r s' => r = .ok (.ret (.bool true)) ∧ OldK s.heap s'.heap ∧ s'.os = s.os ∧ AllBare s'.gens) s := fun u hu hk hs => by
    have hok : HOk P w (H0 cs a u) s.heap := fun b o e => by
      by_cases m : b ∈ cs.map Prod.snd
      · rw [h0_tab m] at e
        cases e
        exact tabx_ok (T.at_ m) (show TriplesOk [] from trivial)
      · by_cases z : b = a
        · subst z
          rw [h0_a m] at e
          rcases hu with rfl | rfl
          · cases e
          · cases e
            exact ⟨ha, by rw [List.length_map]; exact hl, vs, 0, rv, ha⟩
        · rw [h0_no m z] at e
          cases e
    have G := grd_of (u := u) D T ha hk hok
    refine codeAny_mono ((ok _ G.kin G.glo G.tab).run callerA [] s _ ⟨[.ref a], []⟩ [.ref a] [.ref a] _ _ hr G.env (bd s (.ref a)) (.cons rfl .nil) (hsp _ tabs hs)) fun r s' h => ?_
    match r, h with
    | .error e, h => exact (hx _ e s' h).elim
    | .ok .next, h => exact False.elim h
    | .ok .brk, h => exact False.elim h
    | .ok .cont, h => exact False.elim h
    | .ok (.ret v0), h =>
      obtain ⟨v, H', os, bare, un, hok', r', q, qt⟩ := h
      subst q
      obtain rfl : v0 = Value.bool true := r'
      have same : ∀ b o, b ∉ cs.map Prod.snd → s.heap.get? b = some o → s'.heap.get? b = some o := fun b o m e => by
        by_cases z : b = a
        · subst z
          rcases hu with rfl | rfl
          · exact un.keep b o e (h0_a m) List.not_mem_nil List.not_mem_nil
          · have f2 := hok' b _ (un.frzs b _ _ (h0_a m))
            rw [ha] at e
            rw [← Option.some.inj e]
            exact f2.1
        · exact un.keep b o e (h0_no m z) List.not_mem_nil List.not_mem_nil
      have grew : ∀ p ∈ cs, ∃ more : Array Value, s'.heap.get? p.2 = some { cls := .none, data := .fields more } := fun p hp => by
        obtain ⟨⟨more, e, _⟩, _⟩ := hok' p.2 _ (qt p hp)
        exact ⟨more, e⟩
      refine ⟨rfl, ⟨fun b o e => ?_, fun b o e => ?_⟩, os, bare⟩
      · by_cases m : b ∈ cs.map Prod.snd
        · obtain ⟨p, hp, rfl⟩ := List.mem_map.mp m
          obtain ⟨more, g⟩ := grew p hp
          have eo : o = tabO := Option.some.inj (e.symm.trans (T.emp p hp))
          subst eo
          exact .inr (.inl ⟨((T.cod p hp).tab (ps := #[]) (T.emp p hp)).isCodeTable, rfl, #[], more, rfl, by rw [Array.empty_append]; exact g⟩)
        · exact .inl (same b o m e)
      · by_cases m : b ∈ cs.map Prod.snd
        · obtain ⟨p, hp, rfl⟩ := List.mem_map.mp m
          obtain ⟨more, g⟩ := grew p hp
          exact ⟨_, g⟩
        · exact ⟨o, same b o m e⟩
  cases hk : K.lookup a with
  | none => exact go _ (.inr rfl) (fun _ => hk) (.inl (.inr ⟨_, h0_a anot⟩))
  | some o =>
    have e := (D.kin a o hk).symm.trans ha
    have eo := Option.some.inj e
    subst eo
    exact go none (.inl rfl) (fun z => absurd rfl z) (.inr ⟨_, vs.toArray, _, hk, rfl, rfl, rfl, by rw [List.size_toArray, hi.length]; exact hl, by simpa using rv⟩)
end
/-- what the head's defs have: their code objects, with empty tables -/
def Rec0 (q : Program) (mg : Str → Option Value) (h : Heap) : Prop := ∀ d ∈ recsOf q, ∃ a o fd c P, mg d.name = some (.ref a) ∧ h.get? a = some o ∧ o.data = .func fd ∧ fd.code = .ref c ∧ h.IsCode c P #[] ∧ h.TableAt c P #[]
theorem tab_emp {q : Program} {mg : Str → Option Value} {h : Heap} {K : PySem.W.Frag} (R : Rec0 q mg h) (X : K.In h) {nm : Str} {f c Pt : Addr} {fd : FuncData} {e : Value} {dd : Option Addr} {sl : Array (Option Value)}
    (hrec : ((recsOf q).any fun e => e.name == nm) = true) (hm : mg nm = some (.ref f)) (hk : K.lookup f = some ⟨e, dd, .func fd, sl⟩) (hc : fd.code = .ref c) (C : PySem.W.CodeHd h c Pt) : h.get? Pt = some tabO := by
  obtain ⟨d, hd, hn⟩ := List.any_eq_true.mp hrec
  obtain ⟨f1, o1, fd1, c1, P1, e1, e2, e3, e4, _, ⟨⟨oc, vc, g1, _, g3, g4⟩, g5⟩⟩ := R d hd
  rw [beq_iff_eq.mp hn, hm] at e1
  have ef : f = f1 := Value.ref.inj (Option.some.inj e1)
  subst ef
  rw [X f _ hk] at e2
  have eo := Option.some.inj e2
  subst eo
  have efd : fd = fd1 := by injection e3
  subst efd
  rw [hc] at e4
  have ec : c = c1 := Value.ref.inj e4
  subst ec
  obtain ⟨o2, us, _, _, _, _, _, _, _, k1, _, k2, k3, _⟩ := C
  rw [k1] at g1
  have eo2 := Option.some.inj g1
  subst eo2
  rw [k2] at g3
  have eu : us = vc := by injection g3
  subst eu
  rw [k3] at g4
  have eP : Pt = P1 := Value.ref.inj (Option.some.inj g4)
  subst eP
  exact g5
def LawX (l : PySem.W.OpenLaw) (w : World) (K : PySem.W.Frag) (CX : CXT) (k n : Nat) (x : Str) (mg : Str → Option Value) (fa : Addr) (h : Heap) : Prop :=
  ∃ (fd : FuncData) (cs : List (Addr × Addr)) (sp : Sp), Tbs K h cs ∧ (∀ (s : Shared) (v : Value), BindsTo s fd ⟨[v], []⟩ [(x, v)]) ∧
    (∀ (H : Hp) (a : Addr) (ns : List Int), ns.length ≤ n → (∀ z ∈ ns, Builtin.Int.intBits z ≤ 1048576) → (∀ p ∈ cs, H p.2 = some (TabX p.2)) → SqL K H a (ns.map V.int) → sp [.ref a] H (fun v H' => v = .bl true ∧ ∀ p ∈ cs, H' p.2 = some (TabX p.2)) fun _ _ _ => False) ∧
    ∀ base : Heap, K.In base → base.Ns mainGlobals mg → (∀ p ∈ cs, GxR.TabB base mg p.1 p.2) → FnOk l.prog w K mg base CX k fa fd [x] sp
theorem walk_X {l : PySem.W.OpenLaw} {n k : Nat} {q : Program} {loose : List Str} {XP : (Str → Option Value) → Heap → Prop} {YP : World → Heap → Prop} {d : DefRec} {Kf : Params → PySem.W.Frag} {CX : World → CXT} {x : Str}
    (h1 : l.most = some n) (h2 : n ≤ sizeLine) (h3 : d.params.defaults = []) (h4 : Room k callerA) (h5 : ∀ (w : World) (h : Heap), YP w h → (Kf w.params).In h)
    (F : ∀ (w : World) (mg : Str → Option Value) (fa : Addr) (h : Heap), YP w h → (Kf w.params).In h → h.Ns mainGlobals mg → mg d.name = some (.ref fa) → Rec0 q mg h → LawX l w (Kf w.params) (CX w) k n x mg fa h)
    (h6 : ∀ (w : World) (H : Hp) (s : Shared) (e : Value) (s' : Shared), CX w [] H s (fun _ _ _ => False) e s' → False) :
    PySem.W.WalkO q loose XP YP l.row.toRowW d [] (fun f vs => PySem.call f vs) := by
  refine Att.attach_callB h1 h3 fun w _ s₁ mg mb fa o pm cd doc a vs ns G Y _ _ _ hmg hobj hints hlen hbits hg => ?_
  have X := h5 w _ Y
  obtain ⟨fd, cs, sp, T, bd, hsp, ok⟩ := F w mg fa _ Y X G.T.g hmg G.T.tab
  exact law_callX ⟨X, G.T.g, G.T.b, G.T.builtins, G.T.nolimit, hg, G.T.bmain⟩ T hobj hints (Nat.le_trans hlen h2) h4 ok bd (fun H hT hS => hsp H a ns hlen hbits hT hS) fun H e s' => h6 w H s₁ e s'
end KC
set_option Elab.async false
set_option linter.all false
set_option maxRecDepth 100000
set_option maxHeartbeats 4000000
namespace K06
open PySem PySem.Spec PyProof.Rows L2 GX KC Evl KQ M03
theorem top_of {l : PySem.W.OpenLaw} {q : Program} {w : World} {K : PySem.W.Frag} {h : Heap} {mg : Str → Option Value} {fa : Addr} (X : K.In h) (G : h.Ns mainGlobals mg) (R : Rec0 q mg h) (hfa : mg "law" = some (.ref fa)) (r0 : ((recsOf q).any fun e => e.name == "room") = true)  (r1 : ((recsOf q).any fun e => e.name == "is_code") = true)  (r2 : ((recsOf q).any fun e => e.name == "keeps_limit") = true)  (r3 : ((recsOf q).any fun e => e.name == "ranks") = true)  (r4 : ((recsOf q).any fun e => e.name == "cost") = true)  (r15 : ((recsOf q).any fun e => e.name == "is_sound") = true)
    {tk ta tb tc : Tok} {tf : Addr} {oFd : Option Addr} {nF : Nat} {oFs : Array (Option Value)}
    {f0 : Addr} {od0 an0 : Option Addr} {sl0 : Array (Option Value)} {oc0 kV0 dc0 pm0 ct0 : Value} {g0 P0 : Addr} {vc0 : Value} {vd0 : Option Addr} {us0 : Array Value} {vl0 : Array (Option Value)}
    (a0 : PySem.W.nsIn K mainGlobals "room" = some (some (.ref f0))) (l0 : K.lookup f0 = some ⟨oc0, od0, .func (PySem.W.fnOf "room" "room" (defArgs s_room) (defBody s_room) (defScope s_room) .none kV0 dc0 pm0 an0 (.ref g0) ct0), sl0⟩) (c0 : PySem.W.codeIn K (.ref g0) "room" = true) (k0 : PySem.W.keepIn K (.ref f0) = true)
    (v0 : K.lookup g0 = some ⟨vc0, vd0, .fields us0, vl0⟩) (p0 : us0[11]? = some (.ref P0)) (t0 : PySem.W.codeHdIn K g0 P0 = true) (n0 : K.lookup P0 = none)
    {f1 : Addr} {od1 an1 : Option Addr} {sl1 : Array (Option Value)} {oc1 kV1 dc1 pm1 ct1 : Value} {g1 P1 : Addr} {vc1 : Value} {vd1 : Option Addr} {us1 : Array Value} {vl1 : Array (Option Value)}
    (a1 : PySem.W.nsIn K mainGlobals "is_code" = some (some (.ref f1))) (l1 : K.lookup f1 = some ⟨oc1, od1, .func (PySem.W.fnOf "is_code" "is_code" (defArgs s_is_code) (defBody s_is_code) (defScope s_is_code) .none kV1 dc1 pm1 an1 (.ref g1) ct1), sl1⟩) (c1 : PySem.W.codeIn K (.ref g1) "is_code" = true) (k1 : PySem.W.keepIn K (.ref f1) = true)
    (v1 : K.lookup g1 = some ⟨vc1, vd1, .fields us1, vl1⟩) (p1 : us1[11]? = some (.ref P1)) (t1 : PySem.W.codeHdIn K g1 P1 = true) (n1 : K.lookup P1 = none)
    {f2 : Addr} {od2 an2 : Option Addr} {sl2 : Array (Option Value)} {oc2 kV2 dc2 pm2 ct2 : Value} {g2 P2 : Addr} {vc2 : Value} {vd2 : Option Addr} {us2 : Array Value} {vl2 : Array (Option Value)}
    (a2 : PySem.W.nsIn K mainGlobals "keeps_limit" = some (some (.ref f2))) (l2 : K.lookup f2 = some ⟨oc2, od2, .func (PySem.W.fnOf "keeps_limit" "keeps_limit" (defArgs s_keeps_limit) (defBody s_keeps_limit) (defScope s_keeps_limit) .none kV2 dc2 pm2 an2 (.ref g2) ct2), sl2⟩) (c2 : PySem.W.codeIn K (.ref g2) "keeps_limit" = true) (k2 : PySem.W.keepIn K (.ref f2) = true)
    (v2 : K.lookup g2 = some ⟨vc2, vd2, .fields us2, vl2⟩) (p2 : us2[11]? = some (.ref P2)) (t2 : PySem.W.codeHdIn K g2 P2 = true) (n2 : K.lookup P2 = none)
    {f3 : Addr} {od3 an3 : Option Addr} {sl3 : Array (Option Value)} {oc3 kV3 dc3 pm3 ct3 : Value} {g3 PR : Addr} {vc3 : Value} {vd3 : Option Addr} {us3 : Array Value} {vl3 : Array (Option Value)}
    (a3 : PySem.W.nsIn K mainGlobals "ranks" = some (some (.ref f3))) (l3 : K.lookup f3 = some ⟨oc3, od3, .func (PySem.W.fnOf "ranks" "ranks" (defArgs s_ranks) (defBody s_ranks) (defScope s_ranks) .none kV3 dc3 pm3 an3 (.ref g3) ct3), sl3⟩) (c3 : PySem.W.codeIn K (.ref g3) "ranks" = true) (k3 : PySem.W.keepIn K (.ref f3) = true)
    (v3 : K.lookup g3 = some ⟨vc3, vd3, .fields us3, vl3⟩) (p3 : us3[11]? = some (.ref PR)) (t3 : PySem.W.codeHdIn K g3 PR = true) (n3 : K.lookup PR = none)
    {f4 : Addr} {od4 an4 : Option Addr} {sl4 : Array (Option Value)} {oc4 kV4 dc4 pm4 ct4 : Value} {g4 PC : Addr} {vc4 : Value} {vd4 : Option Addr} {us4 : Array Value} {vl4 : Array (Option Value)}
    (a4 : PySem.W.nsIn K mainGlobals "cost" = some (some (.ref f4))) (l4 : K.lookup f4 = some ⟨oc4, od4, .func (PySem.W.fnOf "cost" "cost" (defArgs s_cost) (defBody s_cost) (defScope s_cost) .none kV4 dc4 pm4 an4 (.ref g4) ct4), sl4⟩) (c4 : PySem.W.codeIn K (.ref g4) "cost" = true) (k4 : PySem.W.keepIn K (.ref f4) = true)
    (v4 : K.lookup g4 = some ⟨vc4, vd4, .fields us4, vl4⟩) (p4 : us4[11]? = some (.ref PC)) (t4 : PySem.W.codeHdIn K g4 PC = true) (n4 : K.lookup PC = none)
    {f5 : Addr} {od5 an5 : Option Addr} {sl5 : Array (Option Value)} {oc5 kV5 dc5 pm5 ct5 : Value} {cd5 : Value}
    (a5 : PySem.W.nsIn K mainGlobals "rests" = some (some (.ref f5))) (l5 : K.lookup f5 = some ⟨oc5, od5, .func (PySem.W.fnOf "rests" "rests" (defArgs s_rests) (defBody s_rests) (defScope s_rests) .none kV5 dc5 pm5 an5 cd5 ct5), sl5⟩) (c5 : PySem.W.codeIn K cd5 "rests" = true) (k5 : PySem.W.keepIn K (.ref f5) = true)
    {f6 : Addr} {od6 an6 : Option Addr} {sl6 : Array (Option Value)} {oc6 kV6 dc6 pm6 ct6 : Value} {cd6 : Value}
    (a6 : PySem.W.nsIn K mainGlobals "word_counts" = some (some (.ref f6))) (l6 : K.lookup f6 = some ⟨oc6, od6, .func (PySem.W.fnOf "word_counts" "word_counts" (defArgs s_word_counts) (defBody s_word_counts) (defScope s_word_counts) .none kV6 dc6 pm6 an6 cd6 ct6), sl6⟩) (c6 : PySem.W.codeIn K cd6 "word_counts" = true) (k6 : PySem.W.keepIn K (.ref f6) = true)
    {f7 : Addr} {od7 an7 : Option Addr} {sl7 : Array (Option Value)} {oc7 kV7 dc7 pm7 ct7 : Value} {cd7 : Value}
    (a7 : PySem.W.nsIn K mainGlobals "stage_choices" = some (some (.ref f7))) (l7 : K.lookup f7 = some ⟨oc7, od7, .func (PySem.W.fnOf "stage_choices" "stage_choices" (defArgs s_stage_choices) (defBody s_stage_choices) (defScope s_stage_choices) .none kV7 dc7 pm7 an7 cd7 ct7), sl7⟩) (c7 : PySem.W.codeIn K cd7 "stage_choices" = true) (k7 : PySem.W.keepIn K (.ref f7) = true)
    {f8 : Addr} {od8 an8 : Option Addr} {sl8 : Array (Option Value)} {oc8 kV8 dc8 pm8 ct8 : Value} {cd8 : Value}
    (a8 : PySem.W.nsIn K mainGlobals "reached_stages" = some (some (.ref f8))) (l8 : K.lookup f8 = some ⟨oc8, od8, .func (PySem.W.fnOf "reached_stages" "reached_stages" (defArgs s_reached_stages) (defBody s_reached_stages) (defScope s_reached_stages) .none kV8 dc8 pm8 an8 cd8 ct8), sl8⟩) (c8 : PySem.W.codeIn K cd8 "reached_stages" = true) (k8 : PySem.W.keepIn K (.ref f8) = true)
    {f9 : Addr} {od9 an9 : Option Addr} {sl9 : Array (Option Value)} {oc9 kV9 dc9 pm9 ct9 : Value} {cd9 : Value}
    (a9 : PySem.W.nsIn K mainGlobals "least_sum" = some (some (.ref f9))) (l9 : K.lookup f9 = some ⟨oc9, od9, .func (PySem.W.fnOf "least_sum" "least_sum" (defArgs s_least_sum) (defBody s_least_sum) (defScope s_least_sum) .none kV9 dc9 pm9 an9 cd9 ct9), sl9⟩) (c9 : PySem.W.codeIn K cd9 "least_sum" = true) (k9 : PySem.W.keepIn K (.ref f9) = true)
    {f10 : Addr} {od10 an10 : Option Addr} {sl10 : Array (Option Value)} {oc10 kV10 dc10 pm10 ct10 : Value} {cd10 : Value}
    (a10 : PySem.W.nsIn K mainGlobals "stage_values" = some (some (.ref f10))) (l10 : K.lookup f10 = some ⟨oc10, od10, .func (PySem.W.fnOf "stage_values" "stage_values" (defArgs s_stage_values) (defBody s_stage_values) (defScope s_stage_values) .none kV10 dc10 pm10 an10 cd10 ct10), sl10⟩) (c10 : PySem.W.codeIn K cd10 "stage_values" = true) (k10 : PySem.W.keepIn K (.ref f10) = true)
    {f11 : Addr} {od11 an11 : Option Addr} {sl11 : Array (Option Value)} {oc11 kV11 dc11 pm11 ct11 : Value} {cd11 : Value}
    (a11 : PySem.W.nsIn K mainGlobals "values" = some (some (.ref f11))) (l11 : K.lookup f11 = some ⟨oc11, od11, .func (PySem.W.fnOf "values" "values" (defArgs s_values) (defBody s_values) (defScope s_values) .none kV11 dc11 pm11 an11 cd11 ct11), sl11⟩) (c11 : PySem.W.codeIn K cd11 "values" = true) (k11 : PySem.W.keepIn K (.ref f11) = true)
    {f12 : Addr} {od12 an12 : Option Addr} {sl12 : Array (Option Value)} {oc12 kV12 dc12 pm12 ct12 : Value} {cd12 : Value}
    (a12 : PySem.W.nsIn K mainGlobals "least_lengths" = some (some (.ref f12))) (l12 : K.lookup f12 = some ⟨oc12, od12, .func (PySem.W.fnOf "least_lengths" "least_lengths" (defArgs s_least_lengths) (defBody s_least_lengths) (defScope s_least_lengths) .none kV12 dc12 pm12 an12 cd12 ct12), sl12⟩) (c12 : PySem.W.codeIn K cd12 "least_lengths" = true) (k12 : PySem.W.keepIn K (.ref f12) = true)
    {f13 : Addr} {od13 an13 : Option Addr} {sl13 : Array (Option Value)} {oc13 kV13 dc13 pm13 ct13 : Value} {cd13 : Value}
    (a13 : PySem.W.nsIn K mainGlobals "make_certificate" = some (some (.ref f13))) (l13 : K.lookup f13 = some ⟨oc13, od13, .func (PySem.W.fnOf "make_certificate" "make_certificate" (defArgs s_make_certificate) (defBody s_make_certificate) (defScope s_make_certificate) .none kV13 dc13 pm13 an13 cd13 ct13), sl13⟩) (c13 : PySem.W.codeIn K cd13 "make_certificate" = true) (k13 : PySem.W.keepIn K (.ref f13) = true)
    {f14 : Addr} {od14 an14 : Option Addr} {sl14 : Array (Option Value)} {oc14 kV14 dc14 pm14 ct14 : Value} {cd14 : Value}
    (a14 : PySem.W.nsIn K mainGlobals "is_stage_low_enough" = some (some (.ref f14))) (l14 : K.lookup f14 = some ⟨oc14, od14, .func (PySem.W.fnOf "is_stage_low_enough" "is_stage_low_enough" (defArgs s_is_stage_low_enough) (defBody s_is_stage_low_enough) (defScope s_is_stage_low_enough) .none kV14 dc14 pm14 an14 cd14 ct14), sl14⟩) (c14 : PySem.W.codeIn K cd14 "is_stage_low_enough" = true) (k14 : PySem.W.keepIn K (.ref f14) = true)
    {f15 : Addr} {od15 an15 : Option Addr} {sl15 : Array (Option Value)} {oc15 kV15 dc15 pm15 ct15 : Value} {g15 P4 : Addr} {vc15 : Value} {vd15 : Option Addr} {us15 : Array Value} {vl15 : Array (Option Value)}
    (a15 : PySem.W.nsIn K mainGlobals "is_sound" = some (some (.ref f15))) (l15 : K.lookup f15 = some ⟨oc15, od15, .func (PySem.W.fnOf "is_sound" "is_sound" (defArgs s_is_sound) (defBody s_is_sound) (defScope s_is_sound) .none kV15 dc15 pm15 an15 (.ref g15) ct15), sl15⟩) (c15 : PySem.W.codeIn K (.ref g15) "is_sound" = true) (k15 : PySem.W.keepIn K (.ref f15) = true)
    (v15 : K.lookup g15 = some ⟨vc15, vd15, .fields us15, vl15⟩) (p15 : us15[11]? = some (.ref P4)) (t15 : PySem.W.codeHdIn K g15 P4 = true) (n15 : K.lookup P4 = none)
    {f16 : Addr} {od16 an16 : Option Addr} {sl16 : Array (Option Value)} {oc16 kV16 dc16 pm16 ct16 : Value} {cd16 : Value}
    (a16 : PySem.W.nsIn K mainGlobals "is_shown" = some (some (.ref f16))) (l16 : K.lookup f16 = some ⟨oc16, od16, .func (PySem.W.fnOf "is_shown" "is_shown" (defArgs s_is_shown) (defBody s_is_shown) (defScope s_is_shown) .none kV16 dc16 pm16 an16 cd16 ct16), sl16⟩) (c16 : PySem.W.codeIn K cd16 "is_shown" = true) (k16 : PySem.W.keepIn K (.ref f16) = true)
    {f17 : Addr} {od17 an17 : Option Addr} {sl17 : Array (Option Value)} {oc17 kV17 dc17 pm17 ct17 : Value} {cd17 : Value}
    (a17 : PySem.W.nsIn K mainGlobals "_law_cell" = some (some (.ref f17))) (l17 : K.lookup f17 = some ⟨oc17, od17, .func (PySem.W.fnOf "_law_cell" "_law_cell" (defArgs s_law_cell) (defBody s_law_cell) (defScope s_law_cell) .none kV17 dc17 pm17 an17 cd17 ct17), sl17⟩) (c17 : PySem.W.codeIn K cd17 "_law_cell" = true) (k17 : PySem.W.keepIn K (.ref f17) = true)
    {f18 : Addr} {od18 an18 : Option Addr} {sl18 : Array (Option Value)} {oc18 kV18 dc18 pm18 ct18 : Value} {cd18 : Value}
    (a18 : PySem.W.nsIn K mainGlobals "_law_weights" = some (some (.ref f18))) (l18 : K.lookup f18 = some ⟨oc18, od18, .func (PySem.W.fnOf "_law_weights" "_law_weights" (defArgs s_law_weights) (defBody s_law_weights) (defScope s_law_weights) .none kV18 dc18 pm18 an18 cd18 ct18), sl18⟩) (c18 : PySem.W.codeIn K cd18 "_law_weights" = true) (k18 : PySem.W.keepIn K (.ref f18) = true)
    {f19 : Addr} {od19 an19 : Option Addr} {sl19 : Array (Option Value)} {oc19 kV19 dc19 pm19 ct19 : Value} {cd19 : Value}
    (a19 : PySem.W.nsIn K mainGlobals "_law_ranks" = some (some (.ref f19))) (l19 : K.lookup f19 = some ⟨oc19, od19, .func (PySem.W.fnOf "_law_ranks" "_law_ranks" (defArgs s_law_ranks) (defBody s_law_ranks) (defScope s_law_ranks) .none kV19 dc19 pm19 an19 cd19 ct19), sl19⟩) (c19 : PySem.W.codeIn K cd19 "_law_ranks" = true) (k19 : PySem.W.keepIn K (.ref f19) = true)
    {f20 : Addr} {od20 an20 : Option Addr} {sl20 : Array (Option Value)} {oc20 kV20 dc20 pm20 ct20 : Value} {cd20 : Value}
    (a20 : PySem.W.nsIn K mainGlobals "_law_least_limit" = some (some (.ref f20))) (l20 : K.lookup f20 = some ⟨oc20, od20, .func (PySem.W.fnOf "_law_least_limit" "_law_least_limit" (defArgs s_law_least_limit) (defBody s_law_least_limit) (defScope s_law_least_limit) .none kV20 dc20 pm20 an20 cd20 ct20), sl20⟩) (c20 : PySem.W.codeIn K cd20 "_law_least_limit" = true) (k20 : PySem.W.keepIn K (.ref f20) = true)
    {f21 : Addr} {od21 an21 : Option Addr} {sl21 : Array (Option Value)} {oc21 kV21 dc21 pm21 ct21 : Value} {cd21 : Value}
    (a21 : PySem.W.nsIn K mainGlobals "_law_sums" = some (some (.ref f21))) (l21 : K.lookup f21 = some ⟨oc21, od21, .func (PySem.W.fnOf "_law_sums" "_law_sums" (defArgs s_law_sums) (defBody s_law_sums) (defScope s_law_sums) .none kV21 dc21 pm21 an21 cd21 ct21), sl21⟩) (c21 : PySem.W.codeIn K cd21 "_law_sums" = true) (k21 : PySem.W.keepIn K (.ref f21) = true)
    {f22 : Addr} {od22 an22 : Option Addr} {sl22 : Array (Option Value)} {oc22 kV22 dc22 pm22 ct22 : Value} {cd22 : Value}
    (a22 : PySem.W.nsIn K mainGlobals "_law_choices_by" = some (some (.ref f22))) (l22 : K.lookup f22 = some ⟨oc22, od22, .func (PySem.W.fnOf "_law_choices_by" "_law_choices_by" (defArgs s_law_choices_by) (defBody s_law_choices_by) (defScope s_law_choices_by) .none kV22 dc22 pm22 an22 cd22 ct22), sl22⟩) (c22 : PySem.W.codeIn K cd22 "_law_choices_by" = true) (k22 : PySem.W.keepIn K (.ref f22) = true)
    {f23 : Addr} {od23 an23 : Option Addr} {sl23 : Array (Option Value)} {oc23 kV23 dc23 pm23 ct23 : Value} {cd23 : Value}
    (a23 : PySem.W.nsIn K mainGlobals "_law_choices" = some (some (.ref f23))) (l23 : K.lookup f23 = some ⟨oc23, od23, .func (PySem.W.fnOf "_law_choices" "_law_choices" (defArgs s_law_choices) (defBody s_law_choices) (defScope s_law_choices) .none kV23 dc23 pm23 an23 cd23 ct23), sl23⟩) (c23 : PySem.W.codeIn K cd23 "_law_choices" = true) (k23 : PySem.W.keepIn K (.ref f23) = true)
    {f24 : Addr} {od24 an24 : Option Addr} {sl24 : Array (Option Value)} {oc24 kV24 dc24 pm24 ct24 : Value} {cd24 : Value}
    (a24 : PySem.W.nsIn K mainGlobals "_law_all_least" = some (some (.ref f24))) (l24 : K.lookup f24 = some ⟨oc24, od24, .func (PySem.W.fnOf "_law_all_least" "_law_all_least" (defArgs s_law_all_least) (defBody s_law_all_least) (defScope s_law_all_least) .none kV24 dc24 pm24 an24 cd24 ct24), sl24⟩) (c24 : PySem.W.codeIn K cd24 "_law_all_least" = true) (k24 : PySem.W.keepIn K (.ref f24) = true)
    {f25 : Addr} {od25 an25 : Option Addr} {sl25 : Array (Option Value)} {oc25 kV25 dc25 pm25 ct25 : Value} {cd25 : Value}
    (a25 : PySem.W.nsIn K mainGlobals "_law_judged" = some (some (.ref f25))) (l25 : K.lookup f25 = some ⟨oc25, od25, .func (PySem.W.fnOf "_law_judged" "_law_judged" (defArgs s_law_judged) (defBody s_law_judged) (defScope s_law_judged) .none kV25 dc25 pm25 an25 cd25 ct25), sl25⟩) (c25 : PySem.W.codeIn K cd25 "_law_judged" = true) (k25 : PySem.W.keepIn K (.ref f25) = true)
    {f26 : Addr} {od26 an26 : Option Addr} {sl26 : Array (Option Value)} {oc26 kV26 dc26 pm26 ct26 : Value} {cd26 : Value}
    (a26 : PySem.W.nsIn K mainGlobals "_law_other" = some (some (.ref f26))) (l26 : K.lookup f26 = some ⟨oc26, od26, .func (PySem.W.fnOf "_law_other" "_law_other" (defArgs s_law_other) (defBody s_law_other) (defScope s_law_other) .none kV26 dc26 pm26 an26 cd26 ct26), sl26⟩) (c26 : PySem.W.codeIn K cd26 "_law_other" = true) (k26 : PySem.W.keepIn K (.ref f26) = true)
    {f27 : Addr} {od27 an27 : Option Addr} {sl27 : Array (Option Value)} {oc27 kV27 dc27 pm27 ct27 : Value} {cd27 : Value}
    (a27 : PySem.W.nsIn K mainGlobals "_law_lengths" = some (some (.ref f27))) (l27 : K.lookup f27 = some ⟨oc27, od27, .func (PySem.W.fnOf "_law_lengths" "_law_lengths" (defArgs s_law_lengths) (defBody s_law_lengths) (defScope s_law_lengths) .none kV27 dc27 pm27 an27 cd27 ct27), sl27⟩) (c27 : PySem.W.codeIn K cd27 "_law_lengths" = true) (k27 : PySem.W.keepIn K (.ref f27) = true)
    {f28 : Addr} {od28 an28 : Option Addr} {sl28 : Array (Option Value)} {oc28 kV28 dc28 pm28 ct28 : Value} {cd28 : Value}
    (a28 : PySem.W.nsIn K mainGlobals "law" = some (some (.ref f28))) (l28 : K.lookup f28 = some ⟨oc28, od28, .func (PySem.W.fnOf "law" "law" (defArgs s_law) (defBody s_law) (defScope s_law) .none kV28 dc28 pm28 an28 cd28 ct28), sl28⟩) (c28 : PySem.W.codeIn K cd28 "law" = true) (k28 : PySem.W.keepIn K (.ref f28) = true)
    (z_len : PySem.W.nsIn K mainGlobals "len" = some none)
    (z_int : PySem.W.nsIn K mainGlobals "int" = some none)
    (z_min : PySem.W.nsIn K mainGlobals "min" = some none)
    (z_max : PySem.W.nsIn K mainGlobals "max" = some none)
    (z_list : PySem.W.nsIn K mainGlobals "list" = some none)
    (z_sorted : PySem.W.nsIn K mainGlobals "sorted" = some none)
    (z_sum : PySem.W.nsIn K mainGlobals "sum" = some none)
    (z_range : PySem.W.nsIn K mainGlobals "range" = some none)
    (z_enumerate : PySem.W.nsIn K mainGlobals "enumerate" = some none)
    (z_zip : PySem.W.nsIn K mainGlobals "zip" = some none)
    (z_any : PySem.W.nsIn K mainGlobals "any" = some none)
    (z_isinstance : PySem.W.nsIn K mainGlobals "isinstance" = some none)
    (z_bool : PySem.W.nsIn K mainGlobals "bool" = some none)
    (z_reversed : PySem.W.nsIn K mainGlobals "reversed" = some none)
    (y_LONGEST : PySem.W.nsIn K mainGlobals "LONGEST" = some (some (.int 20 tk)))
    (y_FIRST : PySem.W.nsIn K mainGlobals "FIRST" = some (some (.ref tf)))
    (y_ft : K.lookup tf = some ⟨.type "tuple", oFd, .seq #[.int 0 ta, .int 0 tb, .int 1 tc] nF, oFs⟩)
    (zz_str : PySem.W.nsIn K mainGlobals "str" = some none)
    (zz_tuple : PySem.W.nsIn K mainGlobals "tuple" = some none)
    (zz_all : PySem.W.nsIn K mainGlobals "all" = some none)
    : LawX l w K CX0 11 63 "script" mg fa h := by
  have e := hfa.symm.trans (PySem.W.mg_of X G a28)
  cases e
  have hd0 : PySem.W.CodeHd h g0 P0 := PySem.W.codeHd_of_K X t0
  have em0 : h.get? P0 = some tabO := tab_emp R X r0 (PySem.W.mg_of X G a0) l0 rfl hd0
  have hd1 : PySem.W.CodeHd h g1 P1 := PySem.W.codeHd_of_K X t1
  have em1 : h.get? P1 = some tabO := tab_emp R X r1 (PySem.W.mg_of X G a1) l1 rfl hd1
  have hd2 : PySem.W.CodeHd h g2 P2 := PySem.W.codeHd_of_K X t2
  have em2 : h.get? P2 = some tabO := tab_emp R X r2 (PySem.W.mg_of X G a2) l2 rfl hd2
  have hd3 : PySem.W.CodeHd h g3 PR := PySem.W.codeHd_of_K X t3
  have em3 : h.get? PR = some tabO := tab_emp R X r3 (PySem.W.mg_of X G a3) l3 rfl hd3
  have hd4 : PySem.W.CodeHd h g4 PC := PySem.W.codeHd_of_K X t4
  have em4 : h.get? PC = some tabO := tab_emp R X r4 (PySem.W.mg_of X G a4) l4 rfl hd4
  have hd15 : PySem.W.CodeHd h g15 P4 := PySem.W.codeHd_of_K X t15
  have em15 : h.get? P4 = some tabO := tab_emp R X r15 (PySem.W.mg_of X G a15) l15 rfl hd15
  have T1 : ∀ p ∈ ([(g0, P0), (g1, P1), (g2, P2), (g3, PR), (g4, PC), (g15, P4)] : List (Addr × Addr)), h.get? p.2 = some tabO := by
    intro p hp
    simp only [List.mem_cons, List.not_mem_nil, or_false] at hp
    rcases hp with rfl | rfl | rfl | rfl | rfl | rfl
    · exact em0
    · exact em1
    · exact em2
    · exact em3
    · exact em4
    · exact em15
  have T2 : ∀ p ∈ ([(g0, P0), (g1, P1), (g2, P2), (g3, PR), (g4, PC), (g15, P4)] : List (Addr × Addr)), K.lookup p.2 = none := by
    intro p hp
    simp only [List.mem_cons, List.not_mem_nil, or_false] at hp
    rcases hp with rfl | rfl | rfl | rfl | rfl | rfl
    · exact n0
    · exact n1
    · exact n2
    · exact n3
    · exact n4
    · exact n15
  have T3 : ∀ p ∈ ([(g0, P0), (g1, P1), (g2, P2), (g3, PR), (g4, PC), (g15, P4)] : List (Addr × Addr)), PySem.W.CodeHd h p.1 p.2 := by
    intro p hp
    simp only [List.mem_cons, List.not_mem_nil, or_false] at hp
    rcases hp with rfl | rfl | rfl | rfl | rfl | rfl
    · exact hd0
    · exact hd1
    · exact hd2
    · exact hd3
    · exact hd4
    · exact hd15
  refine ⟨PySem.W.fnOf "law" "law" (defArgs s_law) (defBody s_law) (defScope s_law) .none kV28 dc28 pm28 an28 cd28 ct28, [(g0, P0), (g1, P1), (g2, P2), (g3, PR), (g4, PC), (g15, P4)], spLaw K PR PC P0 P1 P2 P4, ⟨T1, T2, T3⟩, fun s v => .of_eq rfl, fun H a ns hl hb hT hS => ⟨a, ns, rfl, hS, hl, hT _ (List.mem_cons_of_mem _ (List.mem_cons_of_mem _ (List.mem_cons_of_mem _ List.mem_cons_self))), hT _ (List.mem_cons_of_mem _ (List.mem_cons_of_mem _ (List.mem_cons_of_mem _ (List.mem_cons_of_mem _ List.mem_cons_self)))), hT _ List.mem_cons_self, hT _ (List.mem_cons_of_mem _ List.mem_cons_self), hT _ (List.mem_cons_of_mem _ (List.mem_cons_of_mem _ List.mem_cons_self)), hT _ (List.mem_cons_of_mem _ (List.mem_cons_of_mem _ (List.mem_cons_of_mem _ (List.mem_cons_of_mem _ (List.mem_cons_of_mem _ List.mem_cons_self))))), fun H2 e2 => ⟨rfl, fun p hp => e2 _ _ (hT p hp)⟩⟩, fun base kb gb TB => ?_⟩
  have B : Bs mg := ⟨PySem.W.mg_none_of X G z_len, PySem.W.mg_none_of X G z_int, PySem.W.mg_none_of X G z_min, PySem.W.mg_none_of X G z_max, PySem.W.mg_none_of X G z_list, PySem.W.mg_none_of X G z_sorted, PySem.W.mg_none_of X G z_sum, PySem.W.mg_none_of X G z_range, PySem.W.mg_none_of X G z_enumerate, PySem.W.mg_none_of X G z_zip, PySem.W.mg_none_of X G z_any, PySem.W.mg_none_of X G z_isinstance, PySem.W.mg_none_of X G z_bool, PySem.W.mg_none_of X G z_reversed⟩
  have TB0 : GxR.TabB base mg g0 P0 := TB (g0, P0) (by simp)
  have TB1 : GxR.TabB base mg g1 P1 := TB (g1, P1) (by simp)
  have TB2 : GxR.TabB base mg g2 P2 := TB (g2, P2) (by simp)
  have TB3 : GxR.TabB base mg g3 PR := TB (g3, PR) (by simp)
  have TB4 : GxR.TabB base mg g4 PC := TB (g4, PC) (by simp)
  have TB15 : GxR.TabB base mg g15 P4 := TB (g15, P4) (by simp)
  have T : GT mg tk := ⟨PySem.W.mg_of X G y_LONGEST⟩
  have TF : GF K mg tf := ⟨PySem.W.mg_of X G y_FIRST, fun H => .inr ⟨_, _, _, y_ft, rfl, rfl, sz_of (by show 3 ≤ 100000; decide), .cons ⟨_, rfl⟩ (.cons ⟨_, rfl⟩ (.cons ⟨_, rfl⟩ .nil))⟩⟩
  have B2 : Bs2 mg := ⟨PySem.W.mg_none_of X G zz_str, PySem.W.mg_none_of X G zz_tuple, PySem.W.mg_none_of X G zz_all⟩
  have F0 : FunT K "room" "room" s_room f0 _ g0 := ⟨⟨oc0, od0, kV0, dc0, pm0, an0, ct0, sl0, rfl, l0, c0⟩, k0⟩
  have C_room := cal_of (P := l.prog) (w := w) (base := base) F0.fn (PySem.W.mg_of X G a0) (F0.fn.binds (ps := ["lengths"]) fun _ _ _ _ _ _ us hl => match us, hl with | [_], _ => rfl) (ok_room (k := 0) F0 TB0 T B)
  have F1 : FunT K "is_code" "is_code" s_is_code f1 _ g1 := ⟨⟨oc1, od1, kV1, dc1, pm1, an1, ct1, sl1, rfl, l1, c1⟩, k1⟩
  have C_is_code := cal_of (P := l.prog) (w := w) (base := base) F1.fn (PySem.W.mg_of X G a1) (F1.fn.binds (ps := ["lengths"]) fun _ _ _ _ _ _ us hl => match us, hl with | [_], _ => rfl) (ok_is_code (k := 0) F1 TB1 B C_room)
  have F2 : FunT K "keeps_limit" "keeps_limit" s_keeps_limit f2 _ g2 := ⟨⟨oc2, od2, kV2, dc2, pm2, an2, ct2, sl2, rfl, l2, c2⟩, k2⟩
  have C_keeps_limit := cal_of (P := l.prog) (w := w) (base := base) F2.fn (PySem.W.mg_of X G a2) (F2.fn.binds (ps := ["lengths", "limit"]) fun _ _ _ _ _ _ us hl => match us, hl with | [_, _], _ => rfl) (ok_keeps_limit (k := 0) F2 TB2 B B2 C_is_code)
  have F3 : FunT K "ranks" "ranks" s_ranks f3 _ g3 := ⟨⟨oc3, od3, kV3, dc3, pm3, an3, ct3, sl3, rfl, l3, c3⟩, k3⟩
  have C_ranks := cal_of (P := l.prog) (w := w) (base := base) F3.fn (PySem.W.mg_of X G a3) (F3.fn.binds (ps := ["weights"]) fun _ _ _ _ _ _ us hl => match us, hl with | [_], _ => rfl) (ok_ranks (k := 0) F3 TB3 B)
  have F4 : FunT K "cost" "cost" s_cost f4 _ g4 := ⟨⟨oc4, od4, kV4, dc4, pm4, an4, ct4, sl4, rfl, l4, c4⟩, k4⟩
  have C_cost := cal_of (P := l.prog) (w := w) (base := base) F4.fn (PySem.W.mg_of X G a4) (F4.fn.binds (ps := ["weights", "lengths"]) fun _ _ _ _ _ _ us hl => match us, hl with | [_, _], _ => rfl) (ok_cost (k := 0) F4 TB4 B)
  have F5 := fun_mk (st := s_rests) l5 c5 k5
  have C_rests := cal_of (P := l.prog) (w := w) (base := base) F5 (PySem.W.mg_of X G a5) (F5.binds (ps := ["weights"]) fun _ _ _ _ _ _ us hl => match us, hl with | [_], _ => rfl) (ok_rests (k := 0) F5 B)
  have F6 := fun_mk (st := s_word_counts) l6 c6 k6
  have C_word_counts := cal_of (P := l.prog) (w := w) (base := base) F6 (PySem.W.mg_of X G a6) (F6.binds (ps := ["limit", "depth", "free", "left"]) fun _ _ _ _ _ _ us hl => match us, hl with | [_, _, _, _], _ => rfl) (ok_word_counts (k := 0) F6 B)
  have F7 := fun_mk (st := s_stage_choices) l7 c7 k7
  have C_stage_choices := cal_of (P := l.prog) (w := w) (base := base) F7 (PySem.W.mg_of X G a7) (F7.binds (ps := ["sums", "limit", "stage"]) fun _ _ _ _ _ _ us hl => match us, hl with | [_, _, _], _ => rfl) (ok_stage_choices (k := 0) F7 B C_word_counts)
  have F8 := fun_mk (st := s_reached_stages) l8 c8 k8
  have C_reached_stages := cal_of (P := l.prog) (w := w) (base := base) F8 (PySem.W.mg_of X G a8) (F8.binds (ps := ["weights", "limit"]) fun _ _ _ _ _ _ us hl => match us, hl with | [_, _], _ => rfl) (ok_reached_stages (k := 0) TF F8 B C_rests C_stage_choices)
  have F9 := fun_mk (st := s_least_sum) l9 c9 k9
  have C_least_sum := cal_of (P := l.prog) (w := w) (base := base) F9 (PySem.W.mg_of X G a9) (F9.binds (ps := ["choice", "known"]) fun _ _ _ _ _ _ us hl => match us, hl with | [_, _], _ => rfl) (ok_least_sum (k := 0) F9 B)
  have F10 := fun_mk (st := s_stage_values) l10 c10 k10
  have C_stage_values := cal_of (P := l.prog) (w := w) (base := base) F10 (PySem.W.mg_of X G a10) (F10.binds (ps := ["stages"]) fun _ _ _ _ _ _ us hl => match us, hl with | [_], _ => rfl) (ok_stage_values (k := 0) F10 B C_least_sum)
  have F11 := fun_mk (st := s_values) l11 c11 k11
  have C_values := cal_of (P := l.prog) (w := w) (base := base) F11 (PySem.W.mg_of X G a11) (F11.binds (ps := ["weights", "limit"]) fun _ _ _ _ _ _ us hl => match us, hl with | [_, _], _ => rfl) (ok_values (k := 0) F11 B C_reached_stages C_stage_values)
  have F12 := fun_mk (st := s_least_lengths) l12 c12 k12
  have C_least_lengths := cal_of (P := l.prog) (w := w) (base := base) F12 (PySem.W.mg_of X G a12) (F12.binds (ps := ["weights", "limit"]) fun _ _ _ _ _ _ us hl => match us, hl with | [_, _], _ => rfl) (ok_least_lengths (k := 0) TF F12 B C_reached_stages C_stage_values C_ranks C_least_sum)
  have F13 := fun_mk (st := s_make_certificate) l13 c13 k13
  have C_make_certificate := cal_of (P := l.prog) (w := w) (base := base) F13 (PySem.W.mg_of X G a13) (F13.binds (ps := ["weights", "limit"]) fun _ _ _ _ _ _ us hl => match us, hl with | [_, _], _ => rfl) (ok_make_certificate (k := 0) F13 B C_values C_least_lengths)
  have F14 := fun_mk (st := s_is_stage_low_enough) l14 c14 k14
  have C_is_stage_low_enough := cal_of (P := l.prog) (w := w) (base := base) F14 (PySem.W.mg_of X G a14) (F14.binds (ps := ["sums", "limit", "stage", "certificate"]) fun _ _ _ _ _ _ us hl => match us, hl with | [_, _, _, _], _ => rfl) (ok_is_stage_low_enough (k := 0) F14 B C_stage_choices)
  have F15 : FunT K "is_sound" "is_sound" s_is_sound f15 _ g15 := ⟨⟨oc15, od15, kV15, dc15, pm15, an15, ct15, sl15, rfl, l15, c15⟩, k15⟩
  have C_is_sound := cal_of (P := l.prog) (w := w) (base := base) F15.fn (PySem.W.mg_of X G a15) (F15.fn.binds (ps := ["weights", "limit", "certificate"]) fun _ _ _ _ _ _ us hl => match us, hl with | [_, _, _], _ => rfl) (ok_is_sound (k := 0) F15 TB15 B B2 C_rests C_is_stage_low_enough)
  have F16 := fun_mk (st := s_is_shown) l16 c16 k16
  have C_is_shown := cal_of (P := l.prog) (w := w) (base := base) F16 (PySem.W.mg_of X G a16) (F16.binds (ps := ["weights", "limit", "lengths", "certificate"]) fun _ _ _ _ _ _ us hl => match us, hl with | [_, _, _, _], _ => rfl) (ok_is_shown (k := 0) TF F16 B C_keeps_limit C_cost C_is_sound)
  have F17 := fun_mk (st := s_law_cell) l17 c17 k17
  have C_law_cell := cal_of (P := l.prog) (w := w) (base := base) F17 (PySem.W.mg_of X G a17) (F17.binds (ps := ["script", "k"]) fun _ _ _ _ _ _ us hl => match us, hl with | [_, _], _ => rfl) (ok_cell (k := 0) F17 B)
  have F18 := fun_mk (st := s_law_weights) l18 c18 k18
  have C_law_weights := cal_of (P := l.prog) (w := w) (base := base) F18 (PySem.W.mg_of X G a18) (F18.binds (ps := ["script", "first", "many"]) fun _ _ _ _ _ _ us hl => match us, hl with | [_, _, _], _ => rfl) (ok_weights (k := 0) F18 B C_law_cell)
  have F19 := fun_mk (st := s_law_ranks) l19 c19 k19
  have C_law_ranks := cal_of (P := l.prog) (w := w) (base := base) F19 (PySem.W.mg_of X G a19) (F19.binds (ps := ["weights"]) fun _ _ _ _ _ _ us hl => match us, hl with | [_], _ => rfl) (ok_law_ranks (k := 0) F19 B)
  have F20 := fun_mk (st := s_law_least_limit) l20 c20 k20
  have C_law_least_limit := cal_of (P := l.prog) (w := w) (base := base) F20 (PySem.W.mg_of X G a20) (F20.binds (ps := ["many"]) fun _ _ _ _ _ _ us hl => match us, hl with | [_], _ => rfl) (ok_law_least_limit (k := 0) F20 B)
  have F21 := fun_mk (st := s_law_sums) l21 c21 k21
  have C_law_sums := cal_of (P := l.prog) (w := w) (base := base) F21 (PySem.W.mg_of X G a21) (F21.binds (ps := ["weights"]) fun _ _ _ _ _ _ us hl => match us, hl with | [_], _ => rfl) (ok_law_sums (k := 0) F21 B C_law_ranks)
  have F22 := fun_mk (st := s_law_choices_by) l22 c22 k22
  have C_law_choices_by := cal_of (P := l.prog) (w := w) (base := base) F22 (PySem.W.mg_of X G a22) (F22.binds (ps := ["sums", "limit", "stage"]) fun _ _ _ _ _ _ us hl => match us, hl with | [_, _, _], _ => rfl) (ok_law_choices_by (k := 0) F22 B)
  have F23 := fun_mk (st := s_law_choices) l23 c23 k23
  have C_law_choices := cal_of (P := l.prog) (w := w) (base := base) F23 (PySem.W.mg_of X G a23) (F23.binds (ps := ["weights", "limit", "stage"]) fun _ _ _ _ _ _ us hl => match us, hl with | [_, _, _], _ => rfl) (ok_law_choices (k := 0) F23 B C_law_sums C_law_choices_by)
  have F24 := fun_mk (st := s_law_all_least) l24 c24 k24
  have C_law_all_least := cal_of (P := l.prog) (w := w) (base := base) F24 (PySem.W.mg_of X G a24) (F24.binds (ps := ["weights", "limit"]) fun _ _ _ _ _ _ us hl => match us, hl with | [_, _], _ => rfl) (ok_law_all_least (k := 0) F24 B)
  have F25 := fun_mk (st := s_law_judged) l25 c25 k25
  have C_law_judged := cal_of (P := l.prog) (w := w) (base := base) F25 (PySem.W.mg_of X G a25) (F25.binds (ps := ["weights", "limit", "lengths", "certificate"]) fun _ _ _ _ _ _ us hl => match us, hl with | [_, _, _, _], _ => rfl) (ok_law_judged (k := 0) F25 B C_law_choices)
  have F26 := fun_mk (st := s_law_other) l26 c26 k26
  have C_law_other := cal_of (P := l.prog) (w := w) (base := base) F26 (PySem.W.mg_of X G a26) (F26.binds (ps := ["certificate", "cell", "many", "limit"]) fun _ _ _ _ _ _ us hl => match us, hl with | [_, _, _, _], _ => rfl) (ok_law_other (k := 0) F26 B)
  have F27 := fun_mk (st := s_law_lengths) l27 c27 k27
  have C_law_lengths := cal_of (P := l.prog) (w := w) (base := base) F27 (PySem.W.mg_of X G a27) (F27.binds (ps := ["lengths", "cell", "limit"]) fun _ _ _ _ _ _ us hl => match us, hl with | [_, _, _], _ => rfl) (ok_law_lengths (k := 0) F27 B)
  have F28 := fun_mk (st := s_law) l28 c28 k28
  exact ok_law (k := 0) F28 B B2 C_law_cell C_law_weights C_law_least_limit C_least_lengths C_make_certificate C_is_shown C_law_judged C_law_all_least C_law_other C_law_lengths C_cost
end K06
open PySem PySem.W PyProof.Rows
set_option maxHeartbeats 0 in
theorem PySem.Challenge.cw_kraftroom_k06_whole_certificates_holds : PySem.Challenge.rw_kraftroom_k06_whole_certificates.Holds := by
  w_on; o_law; k_head; (case hw => w_witness2)
  k_fill
  refine KC.walk_X (l := PySem.Challenge.rw_kraftroom_k06_whole_certificates) (n := 63) (k := 11) (x := "script") (CX := fun _ => L2.CX0) rfl (by decide) rfl ⟨rfl, by decide, by decide⟩ (fun w h Y => PySem.W.kIn_of Y) ?F (fun _ _ _ _ _ h => h)
  case F =>
    intro w mg fa h Y KX G hmg R
    refine' K06.top_of KX G R hmg ?r0 ?r1 ?r2 ?r3 ?r4 ?r15 ?a0 ?l0 ?c0 ?k0 ?v0 ?p0 ?t0 ?n0 ?a1 ?l1 ?c1 ?k1 ?v1 ?p1 ?t1 ?n1 ?a2 ?l2 ?c2 ?k2 ?v2 ?p2 ?t2 ?n2 ?a3 ?l3 ?c3 ?k3 ?v3 ?p3 ?t3 ?n3 ?a4 ?l4 ?c4 ?k4 ?v4 ?p4 ?t4 ?n4 ?a5 ?l5 ?c5 ?k5 ?a6 ?l6 ?c6 ?k6 ?a7 ?l7 ?c7 ?k7 ?a8 ?l8 ?c8 ?k8 ?a9 ?l9 ?c9 ?k9 ?a10 ?l10 ?c10 ?k10 ?a11 ?l11 ?c11 ?k11 ?a12 ?l12 ?c12 ?k12 ?a13 ?l13 ?c13 ?k13 ?a14 ?l14 ?c14 ?k14 ?a15 ?l15 ?c15 ?k15 ?v15 ?p15 ?t15 ?n15 ?a16 ?l16 ?c16 ?k16 ?a17 ?l17 ?c17 ?k17 ?a18 ?l18 ?c18 ?k18 ?a19 ?l19 ?c19 ?k19 ?a20 ?l20 ?c20 ?k20 ?a21 ?l21 ?c21 ?k21 ?a22 ?l22 ?c22 ?k22 ?a23 ?l23 ?c23 ?k23 ?a24 ?l24 ?c24 ?k24 ?a25 ?l25 ?c25 ?k25 ?a26 ?l26 ?c26 ?k26 ?a27 ?l27 ?c27 ?k27 ?a28 ?l28 ?c28 ?k28 ?z_len ?z_int ?z_min ?z_max ?z_list ?z_sorted ?z_sum ?z_range ?z_enumerate ?z_zip ?z_any ?z_isinstance ?z_bool ?z_reversed ?y_LONGEST ?y_FIRST ?y_ft ?zz_str ?zz_tuple ?zz_all
    (case r0 => rfl)
    (case r1 => rfl)
    (case r2 => rfl)
    (case r3 => rfl)
    (case r4 => rfl)
    (case r15 => rfl)
    (case a0 => k_is); (case l0 => k_is); (case c0 => k_is); (case k0 => k_is); (case v0 => k_is); (case p0 => rfl); (case t0 => rfl); (case n0 => rfl); (case a1 => k_is); (case l1 => k_is); (case c1 => k_is); (case k1 => k_is); (case v1 => k_is); (case p1 => rfl); (case t1 => rfl); (case n1 => rfl); (case a2 => k_is); (case l2 => k_is); (case c2 => k_is); (case k2 => k_is); (case v2 => k_is); (case p2 => rfl); (case t2 => rfl); (case n2 => rfl); (case a3 => k_is); (case l3 => k_is); (case c3 => k_is); (case k3 => k_is); (case v3 => k_is); (case p3 => rfl); (case t3 => rfl); (case n3 => rfl); (case a4 => k_is); (case l4 => k_is); (case c4 => k_is); (case k4 => k_is); (case v4 => k_is); (case p4 => rfl); (case t4 => rfl); (case n4 => rfl); (case a5 => k_is); (case l5 => k_is); (case c5 => k_is); (case k5 => k_is); (case a6 => k_is); (case l6 => k_is); (case c6 => k_is); (case k6 => k_is); (case a7 => k_is); (case l7 => k_is); (case c7 => k_is); (case k7 => k_is); (case a8 => k_is); (case l8 => k_is); (case c8 => k_is); (case k8 => k_is); (case a9 => k_is); (case l9 => k_is); (case c9 => k_is); (case k9 => k_is); (case a10 => k_is); (case l10 => k_is); (case c10 => k_is); (case k10 => k_is); (case a11 => k_is); (case l11 => k_is); (case c11 => k_is); (case k11 => k_is); (case a12 => k_is); (case l12 => k_is); (case c12 => k_is); (case k12 => k_is); (case a13 => k_is); (case l13 => k_is); (case c13 => k_is); (case k13 => k_is); (case a14 => k_is); (case l14 => k_is); (case c14 => k_is); (case k14 => k_is); (case a15 => k_is); (case l15 => k_is); (case c15 => k_is); (case k15 => k_is); (case v15 => k_is); (case p15 => rfl); (case t15 => rfl); (case n15 => rfl); (case a16 => k_is); (case l16 => k_is); (case c16 => k_is); (case k16 => k_is); (case a17 => k_is); (case l17 => k_is); (case c17 => k_is); (case k17 => k_is); (case a18 => k_is); (case l18 => k_is); (case c18 => k_is); (case k18 => k_is); (case a19 => k_is); (case l19 => k_is); (case c19 => k_is); (case k19 => k_is); (case a20 => k_is); (case l20 => k_is); (case c20 => k_is); (case k20 => k_is); (case a21 => k_is); (case l21 => k_is); (case c21 => k_is); (case k21 => k_is); (case a22 => k_is); (case l22 => k_is); (case c22 => k_is); (case k22 => k_is); (case a23 => k_is); (case l23 => k_is); (case c23 => k_is); (case k23 => k_is); (case a24 => k_is); (case l24 => k_is); (case c24 => k_is); (case k24 => k_is); (case a25 => k_is); (case l25 => k_is); (case c25 => k_is); (case k25 => k_is); (case a26 => k_is); (case l26 => k_is); (case c26 => k_is); (case k26 => k_is); (case a27 => k_is); (case l27 => k_is); (case c27 => k_is); (case k27 => k_is); (case a28 => k_is); (case l28 => k_is); (case c28 => k_is); (case k28 => k_is); (case z_len => k_is); (case z_int => k_is); (case z_min => k_is); (case z_max => k_is); (case z_list => k_is); (case z_sorted => k_is); (case z_sum => k_is); (case z_range => k_is); (case z_enumerate => k_is); (case z_zip => k_is); (case z_any => k_is); (case z_isinstance => k_is); (case z_bool => k_is); (case z_reversed => k_is); (case y_LONGEST => k_is); (case y_FIRST => k_is); (case y_ft => k_is); (case zz_str => k_is); (case zz_tuple => k_is); (case zz_all => k_is)
