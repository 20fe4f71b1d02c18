import PyProof.Rows.All
import Wide.All
import OpenK.AllK
import Wide.FinOn
import HandS.ForMost
import HandS.AnyAll
import HandS.GenOver
import PyProof.GenCompD
import PyProof.GenQ
import PyProof.ConsumeS
import HandS.Strs
import KE.GoesMore
import PyProof.EnumMake
import HandS.TryOnly
import HandS.Evl
import HandS.Walk
import HandS.TupAny
import HandS.TupMul
import HandS.IsInst
import HandS.Deep
import HandS.More
import HandS.Style
import HandS.ExcOwn
import HandS.Wide
import HandS.ForExc
import HandS.ExcInit
import HandS.RaiseMore
import HandS.FStr
import HandS.CallLocal
import KE.KExcIs
import HandS.ExcIs
import HandS.ExcField
import PyProof.ReprLen
import PyProof.StrLawsRepr
import KE.KNest
import PyProof.P3In
import PyProof.StrLaws
import HandS.Zip
import PyProof.FitsInt
import HandS.Star
import HandS.Iter
import KE.KStateDown
import KE.RegKIsAll
import PySem.Challenge.RW_countveil_k65_price_numbers_told
set_option Elab.async false
set_option linter.all false
set_option maxRecDepth 100000
set_option maxHeartbeats 4000000
/-! all(elt for x in it), the element free to call: the generator is walked with a word of the state. -/
namespace Gx
open PySem PySem.Spec PyProof.Rows
section
variable {prog : Program} {w : World}
/-- the state while the generator sleeps: no object changes -/
structure Slp (s s2 : Shared) : Prop where
  heap : s2.heap = s.heap
  os : s2.os = s.os
  bare : AllBare s.gens → AllBare s2.gens
  size : s.gens.size ≤ s2.gens.size
/-- what is known of one genexp: its code, its iterator, the state's word -/
structure Gw (prog : Program) (w : World) (A : Around) (elt iter : Expr) (tg : Expr) (scope : Scope) (pos : Pos) (I : Addr) (cenv : Env) (n : Nat) (pb : Nat → Bool) (a : Addr) (g : Nat) (Kd : Nat → Shared → Prop) (Kf : Shared → Prop) : Prop where
  hh : A.handled = none
  turn : ∀ j (s : Shared), j < n → Kd j s → wpAny (model prog w) (A.over (.compLoop (.GeneratorExp elt [⟨tg, iter, [], 0⟩] scope pos) 0 (.ref I) .none cenv) []) (pyNext (.ref I)) (fun r s1 => ∃ u, r = some u ∧
    wpAny (model prog w) (A.over (.compLoop (.GeneratorExp elt [⟨tg, iter, [], 0⟩] scope pos) 0 (.ref I) .none cenv) []) (letOwnedTupleGo tg (.ref I) u) (fun _ s2 =>
      wpAny (model prog w) (A.over (.compLoop (.GeneratorExp elt [⟨tg, iter, [], 0⟩] scope pos) 0 (.ref I) .none cenv) []) (assign tg cenv u) (fun _ s3 =>
        wpAny (model prog w) (A.over (.compLoop (.GeneratorExp elt [⟨tg, iter, [], 0⟩] scope pos) 0 (.ref I) .none cenv) []) (eval elt cenv) (fun y s4 => y = .bool (pb j) ∧ Kd (j + 1) s4) (fun _ _ => False) s3) (fun _ _ => False) s2) (fun _ _ => False) s1) (fun _ _ => False) s
  done : ∀ (s : Shared), Kd n s → wpAny (model prog w) (A.over (.compLoop (.GeneratorExp elt [⟨tg, iter, [], 0⟩] scope pos) 0 (.ref I) .none cenv) []) (pyNext (.ref I)) (fun r s1 => r = none ∧ Kf s1) (fun _ _ => False) s
  gn : ∀ j s, Kd j s → s.heap.IsGen a g ∧ s.heap.NoLimit
  sz : ∀ j s, Kd j s → g < s.gens.size
  slp : ∀ j s s2, Kd j s → Slp s s2 → Kd j s2
  co : cenv.scope.isCoroutine = false
/-- what is yielded, and how one goes on -/
def Yp (n : Nat) (pb : Nat → Bool) (Kd : Nat → Shared → Prop) : Protocol := fun m _ v s1 kap => v = .bool (pb (n - 1 - m)) ∧ Kd (n - m) s1 ∧ ∀ s2, Slp s1 s2 → kap (.send .none) s2
def Rp (Kf : Shared → Prop) : GenEnd := fun m _ r s1 => r = .ok .next ∧ (m = 0 ∧ Kf s1)
theorem seg_walk {A : Around} {elt iter : Expr} {tg : Expr} {scope : Scope} {pos : Pos} {I : Addr} {cenv : Env} {n : Nat} {pb : Nat → Bool} {a : Addr} {g : Nat} {Kd : Nat → Shared → Prop} {Kf : Shared → Prop}
    (G : Gw prog w A elt iter tg scope pos I cenv n pb a g Kd Kf) : ∀ (k j : Nat) (s0 s : Shared), n - j = k → j ≤ n → Kd j s →
      Seg (model prog w) A (Rp Kf) (Yp n pb Kd) (n - j) s0 (.compLoop (.GeneratorExp elt [⟨tg, iter, [], 0⟩] scope pos) 0 (.ref I) .none cenv)
        ((model prog w).den (.compLoop (.GeneratorExp elt [⟨tg, iter, [], 0⟩] scope pos) 0 (.ref I) .none cenv)) [] s := by
  have off : (A.over (.compLoop (.GeneratorExp elt [⟨tg, iter, [], 0⟩] scope pos) 0 (.ref I) .none cenv) []).handled = none := G.hh
  intro k
  induction k with
  | zero =>
    intro j s0 s hk hj kd
    obtain rfl : j = n := by omega
    show Seg _ A _ _ _ s0 _ ((compTurn _ 0 (.ref I) .none cenv).onRaise (leaving cenv)) [] s
    rw [compTurn_gen, Sem.onRaise_eq_wrap]
    refine seg_bind_wrap (wpAny_standAt (seg_bind_wrap (wpAny_mono (G.done s kd) (fun r s1 h => ?_) fun _ _ e => False.elim e)))
    obtain ⟨rfl, kf⟩ := h
    exact seg_end (.ok .next) ⟨rfl, Nat.sub_self _, kf⟩
  | succ k ih =>
    intro j s0 s hk hj kd
    have hlt : j < n := by omega
    show Seg _ A _ _ _ s0 _ ((compTurn _ 0 (.ref I) .none cenv).onRaise (leaving cenv)) [] s
    rw [compTurn_gen, Sem.onRaise_eq_wrap]
    refine seg_bind_wrap (wpAny_standAt (seg_bind_wrap (wpAny_mono (G.turn j s hlt kd) (fun r s1 h => ?_) fun _ _ e => False.elim e)))
    obtain ⟨u, rfl, h1⟩ := h
    refine seg_bind_wrap (wpAny_mono h1 (fun _ s2 h2 => ?_) fun _ _ e => False.elim e)
    refine seg_bind_wrap (wpAny_mono h2 (fun _ s3 h3 => ?_) fun _ _ e => False.elim e)
    simp only [List.forIn_nil, pure_bind, if_true]
    have hy : ∀ u, yieldOut cenv u = yieldValue u := fun u => by simp only [yieldOut, G.co, Bool.false_eq_true, if_false]
    simp only [hy]
    rw [Sem.bind_eq_wrap', Sem.bind_eq_wrap', Sem.wrap_wrap, Sem.wrap_wrap]
    refine seg_wrap (wpAny_mono h3 (fun y s3 h3 => ?_) fun _ _ e => False.elim e)
    obtain ⟨rfl, kd3⟩ := h3
    have e1 : n - j = (n - (j + 1)) + 1 := by omega
    rw [e1]
    refine seg_at (seg_yield rfl rfl rfl ⟨by rw [show n - 1 - (n - (j + 1)) = j by omega], by rw [show n - (n - (j + 1)) = j + 1 by omega]; exact kd3, fun s2 sl => ?_⟩)
    exact seg_again rfl (ih (j + 1) s2 s2 (by omega) hlt (G.slp _ _ _ kd3 sl))
/-- the generator sleeps, j items are out -/
structure GenK (prog : Program) (w : World) (A : Around) (n : Nat) (pb : Nat → Bool) (g : Nat) (Kd : Nat → Shared → Prop) (Kf : Shared → Prop) (j : Nat) (s : Shared) : Prop where
  kd : Kd j s
  go : ∃ gs, s.gens[g]? = some gs ∧ ∀ s2, Slp s s2 → gs.Goes (model prog w) A (Rp Kf) (Yp n pb Kd) (n - j) (.send .none) s2
theorem bare_set {s : Shared} {g : Nat} {x : GenState} (h : AllBare s.gens) (hx : x.bare = true) : AllBare (s.setGen g x).gens := fun y hy => by
  have hy' : y ∈ s.gens.setIfInBounds g x := hy
  rcases Array.mem_or_eq_of_mem_setIfInBounds hy' with h1 | h1
  · exact h y h1
  · rw [h1]
    exact hx
theorem slp_set {s : Shared} {g : Nat} {x : GenState} (hx : x.bare = true) : Slp s (s.setGen g x) :=
  ⟨rfl, rfl, fun h => bare_set h hx, by rw [GenW.setGen_size]; exact Nat.le_refl _⟩
theorem Slp.trans {s s2 s3 : Shared} (x : Slp s s2) (y : Slp s2 s3) : Slp s s3 := ⟨y.heap.trans x.heap, y.os.trans x.os, fun h => y.bare (x.bare h), Nat.le_trans x.size y.size⟩
theorem all_loop {A : Around} {elt iter : Expr} {tg : Expr} {scope : Scope} {pos : Pos} {I : Addr} {cenv : Env} {n : Nat} {pb : Nat → Bool} {a : Addr} {g : Nat} {Kd : Nat → Shared → Prop} {Kf Kz : Shared → Prop} {R : Result → Shared → Prop}
    (G : Gw prog w A.in1.in1 elt iter tg scope pos I cenv n pb a g Kd Kf) (hroom : A.in1.depth < recursionLimit) (z1 : ∀ (s : Shared) h2, Kf s → (∀ b o, s.heap.get? b = some o → h2.get? b = some o) → Kz { s.setGen g .finished with heap := h2 }) (z2 : ∀ j s, Kd j s → Kz s) :
    ∀ (k j : Nat) (s : Shared), n - j = k → j ≤ n → GenK prog w A.in1.in1 n pb g Kd Kf j s → (∀ s2, Kz s2 → R (.ok (.ret (.bool (((List.range n).drop j).all pb)))) s2) → codeAny (model prog w) A (.builtin "all.loop" ⟨[.ref a], []⟩) R s := by
  intro k
  induction k with
  | zero =>
    intro j s hk hj K hR
    obtain rfl : j = n := by omega
    obtain ⟨isg, lim⟩ := G.gn _ _ K.kd
    obtain ⟨gs, hgs, go⟩ := K.go
    rw [Nat.sub_self] at go
    refine codeAny_builtin F.entry_all_loop ?_
    rw [Around.under_plainId F.plain_all_loop _]
    show wpAny _ A.in1 (pyNext (.ref a) >>= _) _ _ s
    refine wpAny_bind (wpAny_pyNext_genexpQ (P := fun m _ s1 => m = 0 ∧ Kf s1) G.hh lim hroom isg hgs (go _ (slp_set rfl)) (fun v s1 gs2 _ hy => ?_) (fun s1 kf h2 keep => ?_))
    · obtain ⟨_, _, no⟩ := hy
      exact False.elim (no s1 ⟨rfl, rfl, fun h => h, Nat.le_refl _⟩)
    · refine wpAny_bind (wpAny_rule (wpAny_pure ?_))
      have h := hR _ (z1 s1 h2 kf.2 keep)
      rw [List.drop_of_length_le (by simp)] at h
      exact h
  | succ k ih =>
    intro j s hk hj K hR
    have hlt : j < n := by omega
    obtain ⟨isg, lim⟩ := G.gn _ _ K.kd
    obtain ⟨gs, hgs, go⟩ := K.go
    have hd : (List.range n).drop j = j :: (List.range n).drop (j + 1) := by
      rw [List.drop_eq_getElem_cons (by simpa using hlt)]
      simp
    have e1 : n - j = (n - (j + 1)) + 1 := by omega
    rw [e1] at go
    refine codeAny_builtin F.entry_all_loop ?_
    rw [Around.under_plainId F.plain_all_loop _]
    show wpAny _ A.in1 (pyNext (.ref a) >>= _) _ _ s
    refine wpAny_bind (wpAny_pyNext_genexpQ (P := fun m _ s1 => m = 0 ∧ Kf s1) G.hh lim hroom isg hgs (go _ (slp_set rfl)) (fun v s1 gs2 hb hy => ?_) (fun s1 kf h2 keep => ?_))
    · obtain ⟨ev, kd1, on⟩ := hy
      have e2 : n - 1 - (n - (j + 1) + 1 - 1) = j := by omega
      have e3 : n - (n - (j + 1) + 1 - 1) = j + 1 := by omega
      rw [e2] at ev
      rw [e3] at kd1
      subst ev
      have hsz := G.sz _ _ kd1
      have kd2 : Kd (j + 1) (s1.setGen g gs2) := G.slp _ _ _ kd1 (slp_set hb)
      have at2 : (s1.setGen g gs2).gens[g]? = some gs2 := by
        show (s1.gens.setIfInBounds g gs2)[g]? = some gs2
        rw [Array.getElem?_setIfInBounds_self_of_lt hsz]
      refine wpAny_bind (wpAny_holding (wpAny_truthy_bool (wpAny_bind (wpAny_letGo ?_))))
      cases hp : pb j with
      | true =>
        simp only [if_true]
        refine wpAny_pure ⟨plainId_quiet F.plain_all_loop _, ih (j + 1) _ (by omega) hlt ⟨kd2, gs2, at2, fun s2 sl => on s2 ((slp_set hb).trans sl)⟩ fun s2 kz => ?_⟩
        have h := hR s2 kz
        rw [hd, List.all_cons, hp, Bool.true_and] at h
        exact h
      | false =>
        simp only [Bool.false_eq_true, if_false]
        refine wpAny_bind (wpAny_rule (wpAny_pure ?_))
        have h := hR _ (z2 _ _ kd2)
        rw [hd, List.all_cons, hp, Bool.false_and] at h
        exact h
    · exact absurd kf.1 (Nat.succ_ne_zero _)
theorem seg_start {A : Around} {elt iter : Expr} {tg : Expr} {scope : Scope} {pos : Pos} {I : Addr} {cenv : Env} {n : Nat} {pb : Nat → Bool} {a : Addr} {g : Nat} {Kd : Nat → Shared → Prop} {Kf : Shared → Prop}
    (G : Gw prog w A elt iter tg scope pos I cenv n pb a g Kd Kf) (hself : ∀ (A' : Around) (s : Shared) (Q : Value → Shared → Prop) (E : Value → Shared → Prop), Kd 0 s → Q (.ref I) s → wpAny (model prog w) A' (pyIter (.ref I)) Q E s) (s0 s : Shared) (kd : Kd 0 s) :
    Seg (model prog w) A (Rp Kf) (Yp n pb Kd) n s0 (.compStart (.GeneratorExp elt [⟨tg, iter, [], 0⟩] scope pos) 0 (.ref I) .none cenv)
      ((model prog w).den (.compStart (.GeneratorExp elt [⟨tg, iter, [], 0⟩] scope pos) 0 (.ref I) .none cenv)) [] s := by
  have loop := seg_walk G n 0 s0 s (Nat.sub_zero _) (Nat.zero_le _) kd
  rw [Nat.sub_zero] at loop
  show Seg _ A _ _ _ s0 _ ((compStart _ 0 (.ref I) .none cenv).onRaise (leaving cenv)) [] s
  unfold compStart
  rw [Sem.onRaise_eq_wrap]
  show Seg _ A _ _ _ s0 _ ((ask >>= _).wrap _ _ _ _) [] s
  refine seg_bind_wrap (wpAny_askSetting ?_)
  split
  · exact seg_again rfl loop
  · first
      | exact seg_bind_wrap (wpAny_rule (seg_bind_wrap (wpAny_standAt (seg_bind_wrap (hself _ s _ _ kd (seg_again rfl loop))))))
      | (refine seg_bind_wrap (wpAny_rule ?_); show Seg _ A _ _ _ s0 _ ((standAt iter.pos >>= _).wrap _ _ _ _) [] s; exact seg_bind_wrap (wpAny_standAt (seg_bind_wrap (hself _ s _ _ kd (seg_again rfl loop)))))
/-- all(the generator at a) -/
theorem call_allG {A : Around} {E : Value → Shared → Prop} {elt iter : Expr} {tg : Expr} {scope : Scope} {pos : Pos} {I : Addr} {cenv : Env} {n : Nat} {pb : Nat → Bool} {a : Addr} {g : Nat} {Kd : Nat → Shared → Prop} {Kf Kz : Shared → Prop} {Q : Value → Shared → Prop} {s : Shared}
    (G : Gw prog w A.in1.in1 elt iter tg scope pos I cenv n pb a g Kd Kf) (hself : ∀ (A' : Around) (s : Shared) (Q : Value → Shared → Prop) (E : Value → Shared → Prop), Kd 0 s → Q (.ref I) s → wpAny (model prog w) A' (pyIter (.ref I)) Q E s)
    (hroom : A.depth < recursionLimit) (z1 : ∀ (s : Shared) h2, Kf s → (∀ b o, s.heap.get? b = some o → h2.get? b = some o) → Kz { s.setGen g .finished with heap := h2 }) (z2 : ∀ j s, Kd j s → Kz s)
    (kd : Kd 0 s) (hgs : s.gens[g]? = some (.fresh (.compStart (.GeneratorExp elt [⟨tg, iter, [], 0⟩] scope pos) 0 (.ref I) .none cenv))) (hQ : ∀ s2, Kz s2 → Q (.bool ((List.range n).all pb)) s2) :
    wpAny (model prog w) A (call (.builtin "all") [.ref a]) Q E s := by
  refine call_function_tree F.kind_all F.plain_all F.entry_all (F.args_all1 _) ?_
  unfold Builtin.«all»
  refine wpAny_bind (m := oneArg "all" _) (wpAny_pure (wpAny_bind (wpAny_pyIter_gen (G.gn _ _ kd).1 ?_)))
  refine wpAny_pure ⟨plainId_quiet F.plain_all_loop _, all_loop G hroom z1 z2 n 0 s (Nat.sub_zero _) (Nat.zero_le _) ⟨kd, _, hgs, fun s2 sl => ⟨rfl, ?_⟩⟩ fun s2 kz => ?_⟩
  · rw [Nat.sub_zero]
    exact seg_start G hself s2 s2 (G.slp _ _ _ kd sl)
  · rw [List.drop_zero]
    exact hQ s2 kz
end
end Gx
set_option Elab.async false
set_option linter.all false
set_option maxRecDepth 100000
set_option maxHeartbeats 4000000
namespace Gx
open PySem PySem.Spec PyProof.Rows L2
/-- within the generator's frame: what was tracked where it was made is H, the state s -/
abbrev gcx (X : Cx) (s : Shared) (H : Hp) (A' : Around) (cenv : Env) (fp : List Addr) : Cx :=
  { X with A := A', s_0 := s, H_0 := H, env := cenv, outer := X.stack, stack := cenv :: X.stack, ex := fp, fn := fun _ => false, calm := true, pn := [], xe := fun _ _ => False }
/-- the names of the generator's own scope -/
structure GenN (N : List Str) (sc scope : Scope) (own : List (Str × Nat)) : Prop where
  kind : scope.kind = .function
  co : scope.isCoroutine = false
  cell : ∀ y ∈ scope.names, y.2 ≠ .cell
  dot : scope.names.lookup (".0" : Str) = some NameKind.local
  uniq : ∀ y ∈ scope.names, scope.names.lookup y.1 = some y.2
  ix : ∀ p ∈ own, N[p.2]? = some p.1
  free : ∀ y ∈ scope.names, y.2 = .free → sc.names.lookup y.1 = some .cell ∨ sc.names.lookup y.1 = some .free
  own : ∀ y ∈ scope.names, y.2 = .local → y.1 ∈ own.map (·.1) ∨ y.1 ∉ N
abbrev genv (X : Cx) (scope : Scope) (C : Addr) (code : Value) : Env := genEnv scope (cloFrom X.env.cells scope.names []) C code builtinsNs X.env
abbrev gob (g : Nat) (n q : Str) (t1 t2 : Tok) : Obj := { cls := .type "generator", data := .fields #[.int g 0, .str n t1, .str q t2] }
section
variable {X : Cx} {pins : List (Addr × Obj)} {σ : L2.St} {H : Hp} {s : Shared}
theorem gcx_start {scope : Scope} {own : List (Str × Nat)} {fp : List Addr} {A' : Around} {code : Value} {it : Value} {h' : Heap} {gs : GenState} {o : Obj} {tk : Nat} (I : Inv X pins σ H s) (ok : GenN X.N X.env.scope scope own) (hN : X.N.Nodup) (hfp : ∀ b ∈ fp, FpOk X pins H b ∧ b < s.heap.objs.size)
    (hA : A'.handled = none) (hF : A'.frames = some (genv X scope s.heap.objs.size code :: X.stack)) (hb : gs.bare = true) (hod : ∀ v, o.data ≠ .cell v) (hof : o.isFreed = false)
    (ns : h'.Ns s.heap.objs.size (fun y => if y = ".0" then some it else none)) (sb : Heap.SameBut s.heap.objs.size (s.heap.push { cls := .type "frame", data := .dict #[] }) h') :
    Inv (gcx X s H A' (genv X scope s.heap.objs.size code) fp) [(h'.objs.size, o)] (wipe σ (own.map (·.2))) H { s with gens := s.gens.push gs, toks := tk, heap := h'.push o } := by
  have hsz : h'.objs.size = s.heap.objs.size + 1 := by rw [sb.1, Heap.size_push]
  have kp : ∀ b u, s.heap.get? b = some u → (h'.push o).get? b = some u := fun b u e => Heap.get?_push_of_some _ (sb.extBut b u (Nat.ne_of_lt (Heap.lt_size e)) (Heap.get?_push_of_some _ e))
  have hfree : ∀ y ∈ scope.names, y.2 = .free → ∃ c, X.env.cells.lookup y.1 = some c := fun y hy e => by
    rcases ok.free y hy e with k | k
    · exact I.ok.has _ (.inl k)
    · exact I.ok.has _ (.inr k)
  have cm : ∀ {y c}, (y, c) ∈ cloFrom X.env.cells scope.names [] → X.env.cells.lookup y = some c ∧ c < s.heap.objs.size := fun {y c} hm => by
    rcases cloFrom_mem hm with hm | ⟨h1, rfl⟩
    · cases hm
    · obtain ⟨c, hc⟩ := hfree _ h1 rfl
      rw [hc]
      obtain ⟨w, z⟩ := I.cell _ _ hc
      exact ⟨rfl, z.lt⟩
  have cl : ∀ {y c}, (genv X scope s.heap.objs.size code).cells.lookup y = some c → X.env.cells.lookup y = some c ∧ c < s.heap.objs.size := fun {y c} e => cm (PySem.mem_of_lookup e)
  have look : ∀ {y}, scope.names.lookup y = some .free → ∃ c, (genv X scope s.heap.objs.size code).cells.lookup y = some c ∧ X.env.cells.lookup y = some c := fun {y} hl => by
    obtain ⟨c, e⟩ := mem_lookup (cloFrom_has (cells := X.env.cells) (acc := []) (PySem.mem_of_lookup hl))
    exact ⟨c, e, (cl e).1⟩
  have okG : (gcx X s H A' (genv X scope s.heap.objs.size code) fp).Ok := by
    refine ⟨I.ok.mod, ok.kind, I.ok.glob, rfl, Nat.le_refl _, fun y z c e1 e2 => I.ok.inj y z c (cl e1).1 (cl e2).1, fun y hy => ?_, fun y c z e => ?_, fun _ => hA, hF, .inr ⟨rfl, rfl⟩, fun b hb => ⟨Nat.ne_of_lt (hfp b hb).2, fun y c e z => (hfp b hb).1.2.2.2.2.1 y c (cl e).1 z⟩, I.bs, Nat.le_trans I.ok.bsz I.sz, fun b o e hb => ?_, fun b hb z => ?_, I.stack, I.stkFree⟩
    · have hy' : scope.names.lookup y = some .cell ∨ scope.names.lookup y = some .free := hy
      rcases hy' with hy' | hy'
      · exact absurd rfl (ok.cell _ (PySem.mem_of_lookup hy'))
      · obtain ⟨c, h1, _⟩ := look hy'
        exact ⟨c, h1⟩
    · exact absurd (show false = true from z) Bool.false_ne_true
    · rcases (hfp b hb).1.2.2.2.1 with z | z
      · exact I.ok.noex b o e z
      · exact absurd (Nat.lt_of_lt_of_le (Heap.lt_size e) (Nat.le_trans I.ok.bsz z)) (Nat.lt_irrefl _)
    · rcases List.mem_cons.mp (I.stkSub b z) with z | z
      · exact (hfp b hb).1.2.1 z
      · exact (hfp b hb).1.2.2.1 z
  refine ⟨okG, rfl, I.bare.push hb, Un.kept kp, ⟨_, ns.push o, fun i y av e1 e2 e3 => ?_⟩, fun y c e => ?_, I.hok.fresh (Nat.le_refl _), fun y c e => I.freeC y c (cl e).1, fun p hp => ?_, I.hok.kept kp, by rw [wipe_length]; exact I.len⟩
  · obtain ⟨e2, hne⟩ := wipe_some e2
    have e1' : X.N[i]? = some y := e1
    have e3' : scope.names.lookup y = some .local ∨ scope.names.lookup y = some .cell ∨ scope.names.lookup y = some .free := e3
    rcases e3' with e3' | e3' | e3'
    · exfalso
      rcases ok.own _ (PySem.mem_of_lookup e3') rfl with h | h
      · obtain ⟨p, hp, hpy⟩ := List.mem_map.mp h
        have e4 := ok.ix p hp
        have hpy' : p.1 = y := hpy
        rw [hpy'] at e4
        exact hne (List.mem_map.mpr ⟨p, hp, nodup_ix hN e4 e1'⟩)
      · exact h (List.mem_of_getElem? e1')
    · exact absurd rfl (ok.cell _ (PySem.mem_of_lookup e3'))
    · obtain ⟨m, hn, hl⟩ := I.loc
      have hv : Vis X.env.scope y := (ok.free _ (PySem.mem_of_lookup e3') rfl).elim (fun k => .inr (.inl k)) (fun k => .inr (.inr k))
      obtain ⟨w, r, q⟩ := hl i y av e1' e2 hv
      obtain ⟨c, h1, h2⟩ := look e3'
      refine ⟨w, r, .inr ⟨.inr e3', c, h1, ?_⟩⟩
      rcases q with ⟨k, _⟩ | ⟨_, c', e', z⟩
      · have k : X.env.scope.names.lookup y = some .local := k
        rcases ok.free _ (PySem.mem_of_lookup e3') rfl with k' | k' <;> rw [show X.env.scope.names.lookup y = _ from k'] at k <;> cases k
      · rw [h2] at e'
        cases e'
        exact z.keeps kp
  · obtain ⟨w, z⟩ := I.cell y c (cl e).1
    exact ⟨w, z.keeps kp⟩
  · have e : p = (h'.objs.size, o) := by simpa using hp
    subst e
    refine ⟨Heap.get?_push_size _ hof, I.hok.fresh (by show s.heap.objs.size ≤ h'.objs.size; omega), ?_, ?_, hod⟩
    · show h'.objs.size ≠ s.heap.objs.size
      omega
    · intro hb
      obtain ⟨_, ob, ho, _⟩ := I.stack.mem hb
      have := Heap.lt_size ho
      have h9 : (h'.objs.size : Nat) < s.heap.objs.size := this
      omega
theorem inv_slp {s2 : Shared} (I : Inv X pins σ H s) (sl : Slp s s2) : Inv X pins σ H s2 := by
  obtain ⟨h1, h2, h3, _⟩ := sl
  exact ⟨I.ok, h2.trans I.os, h3 I.bare, by rw [h1]; exact I.base, by rw [h1]; exact I.loc, by rw [h1]; exact I.cell, I.free, I.freeC, by rw [h1]; exact I.pin, by rw [h1]; exact I.hok, I.len⟩
end
end Gx
set_option Elab.async false
set_option linter.all false
set_option maxRecDepth 100000
set_option maxHeartbeats 4000000
namespace Gx
open PySem PySem.Spec PyProof.Rows L2
/-- all over a generator whose element may call: n turns at most, W the word of what is tracked at each; the def's own table (at P) may grow at the start -/
def tAllG (P : Addr) (own : List (Str × Nat)) (wi : TI) (gt : TG) (te : TE) : TE := fun σ H Q => wi σ H fun J H1 => GxR.TabG H1 P ∧ ∃ (n : Nat) (pb : Nat → Bool) (W : Nat → L2.St → Hp → Prop),
  (∀ H2, GxR.Tabbed P H1 H2 → W 0 (wipe σ (own.map (·.2))) H2) ∧ (∀ j σ' H', j < n → W j σ' H' → J.go j H' ∧ ∀ x H2, J.yld j H' x H2 → gt x σ' H2 fun σ3 H3 => te σ3 H3 fun v H4 => v = .bl (pb j) ∧ W (j + 1) σ3 H4) ∧
  (∀ σ' H', W n σ' H' → J.stop n H') ∧ ∀ j σ' H', W j σ' H' → Q (.bl ((List.range n).all pb)) H'
theorem thnG {α : Type} {M : Model} {A : Around} {s : Shared} {t : Sem α} {Q Q' : α → Shared → Prop} {n : Nat} (hn : n ≤ s.gens.size) (h : wpAny M A t Q (fun _ _ => False) s) (hQ : ∀ a s', n ≤ s'.gens.size → Q a s' → Q' a s') :
    wpAny M A t Q' (fun _ _ => False) s := GenW.wpAny_gsz hn (wpAny_mono h (fun a s' q g => hQ a s' g q) fun _ _ e => e.elim)
theorem room_gen {k : Nat} {A : Around} {elt tg iter : Expr} {scope : Scope} {pos : Pos} {it : Value} {cenv : Env} (r : Room (k + 1) A) :
    Room k (A.in1.in1.over (.compLoop (.GeneratorExp elt [⟨tg, iter, [], 0⟩] scope pos) 0 it .none cenv) []) := by
  refine ⟨r.hd, ?_, ?_⟩
  · have := r.dp
    show A.depth + 0 + 1 + 3 * k + 5 < _
    omega
  · have := r.un
    show A.units + 1 + 1 + 0 + 3 * 1 + 16 * k + 200 < _
    omega
section
variable {X : Cx}
theorem pe_allG {c P : Addr} {elt iter tg : Expr} {p pos gpos : Pos} {scope : Scope} {own : List (Str × Nat)} {wi : TI} {gt : TG} {te : TE} {k : Nat}
    (hr : Room (k + 1) X.A) (hg : Gl X "all") (hm : X.mg "all" = none) (hb : bootBuiltins "all" = some (.builtin "all")) (TB : GxR.TabB X.base X.mg c P) (hcode : X.env.code = .ref c) (S : GenN X.N X.env.scope scope own) (hN : X.N.Nodup) (hi : PI X tg iter wi)
    (ht : ∀ (C : Addr) (code : Value) (s : Shared) (H : Hp) (A' : Around) (fp : List Addr), PG (gcx X s H A' (genv X scope C code) fp) tg gt)
    (hel : ∀ (C : Addr) (code : Value) (s : Shared) (H : Hp) (A' : Around) (fp : List Addr), Room k A' → PE (gcx X s H A' (genv X scope C code) fp) elt te)
    (hs : ∀ v, genFold iter X.env v = pure v)
    (he : starEach [.GeneratorExp elt [⟨tg, iter, [], 0⟩] scope gpos] X.env = (false, eval (.GeneratorExp elt [⟨tg, iter, [], 0⟩] scope gpos) X.env) :: starEach [] X.env := by rfl) :
    PE X (.Call (.Name "all" p) [.GeneratorExp elt [⟨tg, iter, [], 0⟩] scope gpos] [] pos) (tAllG P own wi gt te) := by
  refine ⟨fun pins s σ H Q I h => ?_⟩
  refine wpAny_Call_Name_kw (ld_blt I hg hm hb ?_)
  refine PyProof.Rows.callWith_builtin1 ?_ he (by rfl)
  rw [he]
  show wpAny _ _ (spliced ((false, eval (.GeneratorExp elt [⟨tg, iter, [], 0⟩] scope gpos) X.env) :: backTo pos (starEach [] X.env))) _ _ s
  have hfree : ∀ y ∈ scope.names, y.2 = .free → ∃ c, X.env.cells.lookup y.1 = some c := fun y hy e => by
    rcases S.free y hy e with z | z
    · exact I.ok.has _ (.inl z)
    · exact I.ok.has _ (.inr z)
  refine Calls.spliced_cons (wpAny_GeneratorExp_make S.co (closure_ok hfree) S.cell S.dot S.kind hr.depth ?_ hs)
  refine thn (hi.run pins s σ H _ I h) fun xv s1 h1 => thn h1 fun itv s2 h2 => ?_
  obtain ⟨it, fp, tn, J, H2, rfl, I2, T, st2, f2, ⟨ps, hP, ht0⟩, n, pb, W, w0, turn, stop, fin⟩ := h2
  refine ⟨I2.nolimit, ?_⟩
  have hPs : s2.heap.get? P = some { cls := .none, data := .fields ps } := I2.hok P _ hP
  have nP : ∀ b ∈ fp, b ≠ P := fun b hb e => by
    have := (f2 b hb).1
    rw [e, hP] at this
    cases this
  have cd : PySem.W.CodeHd s2.heap c P := TB.code.keeps I2.bk
  have cont : ∀ (code : Value) (h3 : Heap) (tk : Nat) (ps' : Array Value), Heap.ExtBut P s2.heap h3 → s2.heap.objs.size ≤ h3.objs.size → h3.get? P = some { cls := .none, data := .fields ps' } → (∃ more, ps' = ps ++ more) → TriplesOk ps'.toList →
      wpAny (model X.prog X.w) X.A (builtinsFor X.env.globals X.env.builtins) (fun bi s4 => ∀ h', h'.Ns s4.heap.objs.size (fun y => if y = ".0" then some (.ref it) else none) → Heap.SameBut s4.heap.objs.size (s4.heap.push { cls := .type "frame", data := .dict #[] }) h' →
        wpAny (model X.prog X.w) X.A (spliced (backTo pos (starEach [] X.env))) (fun us s5 => wpAny (model X.prog X.w) X.A (call (.builtin "all") (.ref h'.objs.size :: us)) (EP X pins σ Q) X.xe s5) X.xe { s4 with
            gens := s4.gens.push (.fresh (.compStart (.GeneratorExp elt [⟨tg, iter, [], 0⟩] scope gpos) 0 (.ref it) .none (genEnv scope (cloFrom X.env.cells scope.names []) s4.heap.objs.size code bi X.env))),
            toks := s4.toks + 1 + 1 + 1,
            heap := h'.push { cls := .type "generator", data := .fields #[.int s4.gens.size 0, .str "<genexpr>" (s4.toks + 1), .str (X.env.qual ++ "<genexpr>") (s4.toks + 1 + 1)] } }) X.xe { s2 with heap := h3, toks := tk } := by
    intro code h3 tk ps' hx hsz hP3 hmore ht3
    obtain ⟨bm, ob, e1, e2, e3, e4, e5, e6, e7, e8⟩ := TB.bm
    obtain ⟨more, em⟩ := hmore
    have keep3 : ∀ b u, b ≠ P → s2.heap.get? b = some u → h3.get? b = some u := fun b u hb e => hx b u hb e
    have I3 : Inv X pins σ (upd H2 P (.tbl (ps ++ more))) { s2 with heap := h3, toks := tk } := by
      have z := GxR.inv_tab (more := more) (h' := h3) (g' := s2.gens) (d' := s2.drawn) (t' := tk) I2 hP keep3 (by rw [← em]; exact hP3) I2.bare
      exact z
    refine wpAny_builtinsFor (m := X.mg) (by rw [I2.ok.glob]; exact (I2.mod.glob.keeps I2.bk).extBut hx TB.gP) e1 e2 (keep3 _ _ e4 (I2.bk _ _ e5)) e6 e7 e8 ?_
    intro h' ns sb
    refine Calls.spliced_nil ?_
    have hfp : ∀ b ∈ fp, FpOk X pins (upd H2 P (.tbl (ps ++ more))) b ∧ b < h3.objs.size := fun b hb => by
      obtain ⟨ob, e, _⟩ := T.obj _ _ st2 b hb
      refine ⟨⟨by rw [upd_ne (nP b hb)]; exact (f2 b hb).1, (f2 b hb).2⟩, Nat.lt_of_lt_of_le (Heap.lt_size e) hsz⟩
    have hF : (X.A.in1.in1.over (.compLoop (.GeneratorExp elt [⟨tg, iter, [], 0⟩] scope gpos) 0 (.ref it) .none (genv X scope h3.objs.size code)) []).frames = some (genv X scope h3.objs.size code :: X.stack) := by
      show pushEnvs [genv X scope h3.objs.size code] (pushEnvs [] X.A.frames) = _
      rw [I2.ok.frames]
      rfl
    have J0 := gcx_start (s := { s2 with heap := h3, toks := tk }) (A' := X.A.in1.in1.over (.compLoop (.GeneratorExp elt [⟨tg, iter, [], 0⟩] scope gpos) 0 (.ref it) .none (genv X scope h3.objs.size code)) []) (code := code) (it := .ref it)
      (gs := .fresh (.compStart (.GeneratorExp elt [⟨tg, iter, [], 0⟩] scope gpos) 0 (.ref it) .none (genv X scope h3.objs.size code)))
      (o := { cls := .type "generator", data := .fields #[.int s2.gens.size 0, .str "<genexpr>" (tk + 1), .str (X.env.qual ++ "<genexpr>") (tk + 1 + 1)] }) (tk := tk + 1 + 1 + 1) I3 S hN hfp hr.hd hF rfl (fun v z => by cases z) rfl ns sb
    have hsz' : h'.objs.size = h3.objs.size + 1 := by
      have z := sb.1
      rw [Heap.size_push] at z
      exact z
    have kp5 : ∀ b u, h3.get? b = some u → (h'.push { cls := .type "generator", data := .fields #[.int s2.gens.size 0, .str "<genexpr>" (tk + 1), .str (X.env.qual ++ "<genexpr>") (tk + 1 + 1)] }).get? b = some u := fun b u e => Heap.get?_push_of_some _ (sb.extBut b u (Nat.ne_of_lt (Heap.lt_size e)) (Heap.get?_push_of_some _ e))
    have st5 : tn 0 (h'.push { cls := .type "generator", data := .fields #[.int s2.gens.size 0, .str "<genexpr>" (tk + 1), .str (X.env.qual ++ "<genexpr>") (tk + 1 + 1)] }) := T.keep _ _ _ st2 fun b hb u e => kp5 b u (keep3 b u (nP b hb) e)
    generalize hgo : ({ cls := .type "generator", data := .fields #[.int s2.gens.size 0, .str "<genexpr>" (tk + 1), .str (X.env.qual ++ "<genexpr>") (tk + 1 + 1)] } : Obj) = go at J0 st5 ⊢
    generalize hA' : X.A.in1.in1.over (.compLoop (.GeneratorExp elt [⟨tg, iter, [], 0⟩] scope gpos) 0 (.ref it) .none (genv X scope h3.objs.size code)) [] = A' at J0
    have rA : Room k A' := by rw [← hA']; exact room_gen hr
    have stat : ∀ {H' : Hp}, (∀ b ∈ fp, H' b = none) → ∀ b ∈ fp, FpOk (gcx X { s2 with heap := h3, toks := tk } (upd H2 P (.tbl (ps ++ more))) A' (genv X scope h3.objs.size code) fp) [(h'.objs.size, go)] H' b := fun {H'} hn b hb => by
      refine ⟨hn b hb, (J0.ok.exf b hb).1, J0.ok.exfs b hb, .inl hb, (J0.ok.exf b hb).2, fun q hq => ?_⟩
      have e : q = (h'.objs.size, go) := by simpa using hq
      subst e
      have h9 : (b : Nat) < h3.objs.size := (hfp b hb).2
      intro e
      have e2 : (h'.objs.size : Nat) = b := e
      rw [hsz'] at e2
      exact Nat.not_lt_of_le (Nat.le_of_eq e2) (Nat.lt_succ_of_lt h9)
    let Kd : Nat → Shared → Prop := fun j s' => ∃ σ' H', Inv (gcx X { s2 with heap := h3, toks := tk } (upd H2 P (.tbl (ps ++ more))) A' (genv X scope h3.objs.size code) fp) [(h'.objs.size, go)] σ' H' s' ∧ W j σ' H' ∧ tn j s'.heap ∧ (∀ b ∈ fp, H' b = none) ∧ s2.gens.size + 1 ≤ s'.gens.size
    let Kf : Shared → Prop := fun s' => ∃ σ' H', Inv (gcx X { s2 with heap := h3, toks := tk } (upd H2 P (.tbl (ps ++ more))) A' (genv X scope h3.objs.size code) fp) [(h'.objs.size, go)] σ' H' s' ∧ W n σ' H'
    let Kz : Shared → Prop := fun s' => ∃ j σ' H', Inv X pins σ H' s' ∧ W j σ' H'
    have hch : ∀ b ∈ fp, (b ∈ X.ex ∨ X.s_0.heap.objs.size ≤ b) ∧ b ≠ X.env.locals ∧ (∀ x c, X.env.cells.lookup x = some c → c ≠ b) ∧ ∀ p ∈ X.pn ++ pins, p.1 ≠ b := fun b hb => ⟨(f2 b hb).2.2.2.1, (f2 b hb).2.1, (f2 b hb).2.2.2.2.1, (f2 b hb).2.2.2.2.2⟩
    have G : Gw X.prog X.w X.A.in1.in1 elt iter tg scope gpos it (genv X scope h3.objs.size code) n pb h'.objs.size s2.gens.size Kd Kf := by
      refine ⟨hr.hd, fun j s' hj kd => ?_, fun s' kd => ?_, fun j s' kd => ?_, fun j s' kd => ?_, fun j s' s'' kd sl => ?_, S.co⟩
      · obtain ⟨σ', H', Ig, wj, stj, frj, gz⟩ := kd
        obtain ⟨goj, step⟩ := turn j σ' H' hj wj
        rw [hA']
        refine thnG gz (T.item (gcx X { s2 with heap := h3, toks := tk } (upd H2 P (.tbl (ps ++ more))) A' (genv X scope h3.objs.size code) fp) rfl rfl rfl rfl j _ s' σ' H' (fun _ _ => False) Ig (stat frj) stj goj) fun r s4 g4 ⟨u, hu, h4⟩ => ⟨u, hu, ?_⟩
        refine thnG g4 h4 fun _ s5 g5 ⟨x, H5, I5, r5, y5, st5, fr5⟩ => ?_
        have I5' := I5.pinned (stat fr5) (T.obj _ _ st5)
        refine thnG g5 ((ht h3.objs.size code _ _ A' fp).run _ s5 σ' H5 x u _ I5' r5 (step x H5 y5)) fun _ s6 g6 ⟨σ6, H6, I6, q6⟩ => ?_
        refine thnG g6 ((hel h3.objs.size code _ _ A' fp rA).run _ s6 σ6 H6 _ I6 q6) fun y s7 g7 ⟨v, H7, I7, r7, ev, q7⟩ => ?_
        subst ev
        refine ⟨r7, σ6, H7, I7.unpinned, q7, T.keep _ _ _ st5 fun b hb o e => (I7.pin (b, o) (List.mem_append_right _ (List.mem_append_right _ (mem_pinsAt hb e)))).1, fun b hb => ?_, g7⟩
        obtain ⟨o, e, d⟩ := T.obj _ _ st5 b hb
        exact (I7.pin (b, o) (List.mem_append_right _ (List.mem_append_right _ (mem_pinsAt hb e)))).2.1
      · obtain ⟨σ', H', Ig, wj, stj, frj, gz⟩ := kd
        rw [hA']
        refine thn (T.done (gcx X { s2 with heap := h3, toks := tk } (upd H2 P (.tbl (ps ++ more))) A' (genv X scope h3.objs.size code) fp) rfl rfl rfl rfl n _ s' σ' H' (fun _ _ => False) Ig (stat frj) stj (stop σ' H' wj)) fun r s4 ⟨e, I4⟩ => ⟨e, σ', H', I4, wj⟩
      · obtain ⟨σ', H', Ig, _⟩ := kd
        have q := (Ig.pin (h'.objs.size, go) (by simp)).1
        rw [← hgo] at q
        exact ⟨⟨_, _, _, q, rfl, rfl, rfl⟩, Ig.nolimit⟩
      · obtain ⟨_, _, _, _, _, _, gz⟩ := kd
        omega
      · obtain ⟨σ', H', Ig, wj, stj, frj, gz⟩ := kd
        exact ⟨σ', H', inv_slp Ig sl, wj, by rw [sl.heap]; exact stj, frj, Nat.le_trans gz sl.size⟩
    have fr0 : ∀ b ∈ fp, upd H2 P (.tbl (ps ++ more)) b = none := fun b hb => (hfp b hb).1.1
    refine call_allG (Kz := Kz) G (fun A9 s9 Q9 E9 kd q => ?_) hr.depth (fun s9 h9 kf keep => ?_) (fun j s9 kd => ?_) ⟨_, _, J0, w0 _ ⟨⟨ps ++ more, upd_same, by rw [← em]; exact ht3⟩, fun b hb => upd_ne hb⟩, st5, fr0, by show _ ≤ (s2.gens.push _).size; rw [Array.size_push]; exact Nat.le_refl _⟩ ?_ fun s9 kz => ?_
    · obtain ⟨_, _, _, _, st9, _⟩ := kd
      exact T.self A9 0 s9 Q9 E9 st9 q
    · obtain ⟨σ', H', Ig, wj⟩ := kf
      exact ⟨n, σ', H', I3.call' (ch := fp) Ig.os (Ig.base.trans (Un.kept keep)) (Ig.hok.kept keep) (bare_set Ig.bare rfl) hch, wj⟩
    · obtain ⟨σ', H', Ig, wj, _⟩ := kd
      exact ⟨j, σ', H', I3.call' (ch := fp) Ig.os Ig.base Ig.hok Ig.bare hch, wj⟩
    · show (s2.gens.push _)[s2.gens.size]? = _
      exact Array.getElem?_push_size
    · obtain ⟨j, σ', H', I9, wj⟩ := kz
      exact ⟨.bl _, H', I9, rfl, fin j σ' H' wj⟩
  cases hf : codeAmong gpos ps.toList with
  | none =>
    refine wpAny_genexprCodeX hcode (cd.code hPs ht0) (cd.tab hPs) hf fun c' h' tk hx hge hlt hco' _ htab' _ => ?_
    obtain ⟨o1, vs, f1, tf, fl, tg, inF, tx, tt, op, _, _, _, _, _, _, _, _, _, htr, _⟩ := hco'
    exact cont _ h' tk _ hx (Nat.le_trans hge (Nat.le_of_lt hlt)) htab'.2 ⟨_, rfl⟩ htr
  | some cv =>
    refine wpAny_genexprCode_hit hcode (cd.code hPs ht0) hf ?_
    exact cont cv s2.heap s2.toks ps (Heap.ExtBut.refl _ _) (Nat.le_refl _) hPs ⟨#[], by simp⟩ ht0
end
end Gx
set_option Elab.async false
set_option linter.all false
set_option maxRecDepth 100000
set_option maxHeartbeats 4000000
/-! sum(elt for x in it), the element free to call. -/
namespace Gs
open PySem PySem.Spec PyProof.Rows
section
variable {prog : Program} {w : World}
abbrev gcode (elt tg iter : Expr) (scope : Scope) (pos : Pos) (I : Addr) (cenv : Env) : Code := .compLoop (.GeneratorExp elt [⟨tg, iter, [], 0⟩] scope pos) 0 (.ref I) .none cenv
/-- one genexp: Kd j when it is to go on, Ke j v when it has told v -/
structure Gw (prog : Program) (w : World) (A : Around) (elt iter : Expr) (tg : Expr) (scope : Scope) (pos : Pos) (I : Addr) (cenv : Env) (n : Nat) (Ke : Nat → Value → Shared → Prop) (Kd : Nat → Shared → Prop) (Kf : Shared → Prop) : Prop where
  hh : A.handled = none
  turn : ∀ j (s : Shared), j < n → Kd j s → wpAny (model prog w) (A.over (gcode elt tg iter scope pos I cenv) []) (pyNext (.ref I)) (fun r s1 => ∃ u, r = some u ∧
    wpAny (model prog w) (A.over (gcode elt tg iter scope pos I cenv) []) (letOwnedTupleGo tg (.ref I) u) (fun _ s2 =>
      wpAny (model prog w) (A.over (gcode elt tg iter scope pos I cenv) []) (assign tg cenv u) (fun _ s3 =>
        wpAny (model prog w) (A.over (gcode elt tg iter scope pos I cenv) []) (eval elt cenv) (fun y s4 => Ke j y s4) (fun _ _ => False) s3) (fun _ _ => False) s2) (fun _ _ => False) s1) (fun _ _ => False) s
  done : ∀ (s : Shared), Kd n s → wpAny (model prog w) (A.over (gcode elt tg iter scope pos I cenv) []) (pyNext (.ref I)) (fun r s1 => r = none ∧ Kf s1) (fun _ _ => False) s
  co : cenv.scope.isCoroutine = false
def Yp (n : Nat) (Ke : Nat → Value → Shared → Prop) (Kd : Nat → Shared → Prop) : Protocol := fun m _ v s1 kap => Ke (n - 1 - m) v s1 ∧ ∀ s2, Kd (n - m) s2 → kap (.send .none) s2
def Rp (Kf : Shared → Prop) : GenEnd := fun m _ r s1 => r = .ok .next ∧ (m = 0 ∧ Kf s1)
theorem seg_walk {A : Around} {elt iter : Expr} {tg : Expr} {scope : Scope} {pos : Pos} {I : Addr} {cenv : Env} {n : Nat} {Ke : Nat → Value → Shared → Prop} {Kd : Nat → Shared → Prop} {Kf : Shared → Prop}
    (G : Gw prog w A elt iter tg scope pos I cenv n Ke Kd Kf) : ∀ (k j : Nat) (s0 s : Shared), n - j = k → j ≤ n → Kd j s →
      Seg (model prog w) A (Rp Kf) (Yp n Ke Kd) (n - j) s0 (gcode elt tg iter scope pos I cenv) ((model prog w).den (gcode elt tg iter scope pos I cenv)) [] s := by
  intro k
  induction k with
  | zero =>
    intro j s0 s hk hj kd
    obtain rfl : j = n := by omega
    show Seg _ A _ _ _ s0 _ ((compTurn _ 0 (.ref I) .none cenv).onRaise (leaving cenv)) [] s
    rw [compTurn_gen, Sem.onRaise_eq_wrap]
    refine seg_bind_wrap (wpAny_standAt (seg_bind_wrap (wpAny_mono (G.done s kd) (fun r s1 h => ?_) fun _ _ e => False.elim e)))
    obtain ⟨rfl, kf⟩ := h
    exact seg_end (.ok .next) ⟨rfl, Nat.sub_self _, kf⟩
  | succ k ih =>
    intro j s0 s hk hj kd
    have hlt : j < n := by omega
    show Seg _ A _ _ _ s0 _ ((compTurn _ 0 (.ref I) .none cenv).onRaise (leaving cenv)) [] s
    rw [compTurn_gen, Sem.onRaise_eq_wrap]
    refine seg_bind_wrap (wpAny_standAt (seg_bind_wrap (wpAny_mono (G.turn j s hlt kd) (fun r s1 h => ?_) fun _ _ e => False.elim e)))
    obtain ⟨u, rfl, h1⟩ := h
    refine seg_bind_wrap (wpAny_mono h1 (fun _ s2 h2 => ?_) fun _ _ e => False.elim e)
    refine seg_bind_wrap (wpAny_mono h2 (fun _ s3 h3 => ?_) fun _ _ e => False.elim e)
    simp only [List.forIn_nil, pure_bind, if_true]
    have hy : ∀ u, yieldOut cenv u = yieldValue u := fun u => by simp only [yieldOut, G.co, Bool.false_eq_true, if_false]
    simp only [hy]
    rw [Sem.bind_eq_wrap', Sem.bind_eq_wrap', Sem.wrap_wrap, Sem.wrap_wrap]
    refine seg_wrap (wpAny_mono h3 (fun y s3 h3 => ?_) fun _ _ e => False.elim e)
    have e1 : n - j = (n - (j + 1)) + 1 := by omega
    rw [e1]
    refine seg_at (seg_yield rfl rfl rfl ⟨by rw [show n - 1 - (n - (j + 1)) = j by omega]; exact h3, fun s2 kd2 => ?_⟩)
    rw [show n - (n - (j + 1)) = j + 1 by omega] at kd2
    exact seg_again rfl (ih (j + 1) s2 s2 (by omega) hlt kd2)
theorem seg_start {A : Around} {elt iter : Expr} {tg : Expr} {scope : Scope} {pos : Pos} {I : Addr} {cenv : Env} {n : Nat} {Ke : Nat → Value → Shared → Prop} {Kd : Nat → Shared → Prop} {Kf : Shared → Prop}
    (G : Gw prog w A elt iter tg scope pos I cenv n Ke Kd Kf) (hself : ∀ (A' : Around) (s : Shared) (Q : Value → Shared → Prop) (E : Value → Shared → Prop), Kd 0 s → Q (.ref I) s → wpAny (model prog w) A' (pyIter (.ref I)) Q E s) (s0 s : Shared) (kd : Kd 0 s) :
    Seg (model prog w) A (Rp Kf) (Yp n Ke Kd) n s0 (.compStart (.GeneratorExp elt [⟨tg, iter, [], 0⟩] scope pos) 0 (.ref I) .none cenv)
      ((model prog w).den (.compStart (.GeneratorExp elt [⟨tg, iter, [], 0⟩] scope pos) 0 (.ref I) .none cenv)) [] s := by
  have loop := seg_walk G n 0 s0 s (Nat.sub_zero _) (Nat.zero_le _) kd
  rw [Nat.sub_zero] at loop
  show Seg _ A _ _ _ s0 _ ((compStart _ 0 (.ref I) .none cenv).onRaise (leaving cenv)) [] s
  unfold compStart
  rw [Sem.onRaise_eq_wrap]
  show Seg _ A _ _ _ s0 _ ((ask >>= _).wrap _ _ _ _) [] s
  refine seg_bind_wrap (wpAny_askSetting ?_)
  split
  · exact seg_again rfl loop
  · first
      | exact seg_bind_wrap (wpAny_rule (seg_bind_wrap (wpAny_standAt (seg_bind_wrap (hself _ s _ _ kd (seg_again rfl loop))))))
      | (refine seg_bind_wrap (wpAny_rule ?_); show Seg _ A _ _ _ s0 _ ((standAt iter.pos >>= _).wrap _ _ _ _) [] s; exact seg_bind_wrap (wpAny_standAt (seg_bind_wrap (hself _ s _ _ kd (seg_again rfl loop)))))
/-- the generator sleeps, j items are out -/
structure GenK (prog : Program) (w : World) (A : Around) (n : Nat) (Ke : Nat → Value → Shared → Prop) (g : Nat) (Kd : Nat → Shared → Prop) (Kf : Shared → Prop) (j : Nat) (s : Shared) : Prop where
  kd : Kd j s
  go : ∃ gs, s.gens[g]? = some gs ∧ ∀ s2, Kd j s2 → gs.Goes (model prog w) A (Rp Kf) (Yp n Ke Kd) (n - j) (.send .none) s2
abbrev sob (x : Int) (t : Tok) (c : Nat) : Obj := { cls := .type "list", dict := none, data := .seq #[.int x t] c, slots := #[] }
/-- what the one who sums must know: Kd stays when the generator's state is set; at S stands the sum so far -/
structure Sw (n : Nat) (Ke : Nat → Value → Shared → Prop) (Kd : Nat → Shared → Prop) (a : Addr) (g : Nat) (S : Addr) (val : Nat → Int) : Prop where
  gn : ∀ j s, Kd j s → s.heap.IsGen a g ∧ s.heap.NoLimit
  run : ∀ j s gs, gs.bare = true → Kd j s → Kd j (s.setGen g gs)
  at_ : ∀ j s, Kd j s → ∃ t c, s.heap.get? S = some (sob (preSum val j) t c)
  tell : ∀ j v s, j < n → Ke j v s → ∃ t t0 c, v = .int (val j) t ∧ s.heap.get? S = some (sob (preSum val j) t0 c) ∧ g < s.gens.size
  put : ∀ j v s gs t tk, j < n → Ke j v s → gs.bare = true → Kd (j + 1) { s.setGen g gs with heap := s.heap.update S (Obj.mapSeq fun _ => #[.int (preSum val j + val j) t]), toks := tk }
  again : ∀ j s t tk, Kd (j + 1) s → Kd (j + 1) { s with heap := s.heap.update S (Obj.mapSeq fun _ => #[.int (preSum val j + val j) t]), toks := tk }
theorem sum_loop {A : Around} {elt iter : Expr} {tg : Expr} {scope : Scope} {pos : Pos} {I : Addr} {cenv : Env} {n : Nat} {val : Nat → Int} {a S : Addr} {g : Nat} {Ke : Nat → Value → Shared → Prop} {Kd : Nat → Shared → Prop} {Kf Kz : Shared → Prop} {R : Result → Shared → Prop}
    (G : Gw prog w A.in1.in1 elt iter tg scope pos I cenv n Ke Kd Kf) (W : Sw n Ke Kd a g S val) (hroom : A.in1.depth < recursionLimit) (z1 : ∀ (s : Shared) h2, Kf s → (∀ b o, s.heap.get? b = some o → h2.get? b = some o) → Kz { s.setGen g .finished with heap := h2 }) :
    ∀ (k j : Nat) (s : Shared) (stage : Int), (stage = 0 ∨ stage = 2) → n - j = k → j ≤ n → GenK prog w A.in1.in1 n Ke g Kd Kf j s → (∀ s2 t, Kz s2 → R (.ok (.ret (.int (preSum val n) t))) s2) → codeAny (model prog w) A (.builtin "sum.loop" ⟨[.ref a, .ref S, rawInt stage, rawInt 0], []⟩) R s := by
  intro k
  induction k with
  | zero =>
    intro j s stage hst hk hj K hR
    obtain rfl : j = n := by omega
    obtain ⟨isg, lim⟩ := W.gn _ _ K.kd
    obtain ⟨gs, hgs, go⟩ := K.go
    obtain ⟨t0, c0, hS⟩ := W.at_ _ _ K.kd
    rw [Nat.sub_self] at go
    refine codeAny_builtin F.entry_sum_loop ?_
    rw [Around.under_plainId F.plain_sum_loop _]
    show wpAny _ A.in1 (seqItems? (.ref S) >>= _) _ _ s
    refine wpAny_bind (wpAny_seqItems hS rfl ?_)
    show wpAny _ A.in1 (tryCatch (pyNext (.ref a)) _ >>= _) _ _ s
    refine wpAny_bind (wpAny_tryCatch (wpAny_pyNext_genexpQ (P := fun m _ s1 => m = 0 ∧ Kf s1) G.hh lim hroom isg hgs (go _ (W.run _ _ _ rfl K.kd)) (fun v s1 gs2 hb hy => ?_) (fun s1 kf h2 keep => ?_)))
    · obtain ⟨ke, no⟩ := hy
      exact False.elim (no s (by
        rw [Nat.sub_zero]
        exact K.kd))
    · exact wpAny_pure (hR _ t0 (z1 s1 h2 kf.2 keep))
  | succ k ih =>
    intro j s stage hst hk hj K hR
    have hlt : j < n := by omega
    obtain ⟨isg, lim⟩ := W.gn _ _ K.kd
    obtain ⟨gs, hgs, go⟩ := K.go
    obtain ⟨t0, c0, hS⟩ := W.at_ _ _ K.kd
    have e1 : n - j = (n - (j + 1)) + 1 := by omega
    rw [e1] at go
    refine codeAny_builtin F.entry_sum_loop ?_
    rw [Around.under_plainId F.plain_sum_loop _]
    show wpAny _ A.in1 (seqItems? (.ref S) >>= _) _ _ s
    refine wpAny_bind (wpAny_seqItems hS rfl ?_)
    show wpAny _ A.in1 (tryCatch (pyNext (.ref a)) _ >>= _) _ _ s
    refine wpAny_bind (wpAny_tryCatch (wpAny_pyNext_genexpQ (P := fun m _ s1 => m = 0 ∧ Kf s1) G.hh lim hroom isg hgs (go _ (W.run _ _ _ rfl K.kd)) (fun v s1 gs2 hb hy => ?_) (fun s1 kf h2 keep => ?_)))
    · obtain ⟨ke, on⟩ := hy
      have e2 : n - 1 - (n - (j + 1) + 1 - 1) = j := by omega
      have e3 : n - (n - (j + 1) + 1 - 1) = j + 1 := by omega
      rw [e2] at ke
      rw [e3] at on
      obtain ⟨t, t1, c1, rfl, hS1, hsz⟩ := W.tell _ _ _ hlt ke
      have hS' : (s1.setGen g gs2).heap.get? S = some (sob (preSum val j) t1 c1) := hS1
      have at2 : ∀ (h : Heap) (tk : Nat), ({ s1.setGen g gs2 with heap := h, toks := tk } : Shared).gens[g]? = some gs2 := fun h tk => by
        show (s1.gens.setIfInBounds g gs2)[g]? = some gs2
        rw [Array.getElem?_setIfInBounds_self_of_lt hsz]
      have hS2 := Heap.get?_update_self (Obj.mapSeq fun _ => #[Value.int (preSum val j + val j) s1.toks]) hS' rfl
      rcases hst with rfl | rfl
      · show wpAny _ A.in1 (if (_ : Bool) = true then (mkInt (preSum val j + val j) >>= _) else _) _ _ _
        split
        · refine wpAny_bind (wpAny_mkInt ?_)
          show wpAny _ A.in1 (updateSeq S (fun _ => #[.int (preSum val j + val j) _]) >>= _) _ _ _
          refine wpAny_bind (wpAny_updateSeq hS' rfl (wpAny_pure ⟨plainId_quiet F.plain_sum_loop _, ih (j + 1) _ 0 (.inl rfl) (by omega) hlt ⟨W.put j _ s1 gs2 _ _ hlt ke hb, gs2, at2 _ _, on⟩ hR⟩))
        · refine wpAny_bind (wpAny_rule ?_)
          refine wpAny_bind (wpAny_attempt (wpAny_holding (PySem.P.add_int ?_)))
          show wpAny _ A.in1 (updateSeq S (fun _ => #[.int (preSum val j + val j) s1.toks]) >>= _) _ _ _
          refine wpAny_bind (wpAny_updateSeq hS' rfl (wpAny_bind (wpAny_letGo ?_)))
          exact wpAny_bind (wpAny_updateSeq hS2 rfl (wpAny_pure ⟨plainId_quiet F.plain_sum_loop _, ih (j + 1) _ 2 (.inr rfl) (by omega) hlt ⟨W.again j _ _ _ (W.put j _ s1 gs2 s1.toks _ hlt ke hb), gs2, at2 _ _, on⟩ hR⟩))
      · show wpAny _ A.in1 ((holding [Value.int (val j) t] (binaryOp .Add (.int (preSum val j) t0) (.int (val j) t))).attempt >>= _) _ _ _
        refine wpAny_bind (wpAny_attempt (wpAny_holding (PySem.P.add_int ?_)))
        show wpAny _ A.in1 (updateSeq S (fun _ => #[.int (preSum val j + val j) s1.toks]) >>= _) _ _ _
        refine wpAny_bind (wpAny_updateSeq hS' rfl (wpAny_bind (wpAny_letGo ?_)))
        exact wpAny_bind (wpAny_updateSeq hS2 rfl (wpAny_pure ⟨plainId_quiet F.plain_sum_loop _, ih (j + 1) _ 2 (.inr rfl) (by omega) hlt ⟨W.again j _ _ _ (W.put j _ s1 gs2 s1.toks _ hlt ke hb), gs2, at2 _ _, on⟩ hR⟩))
    · exact absurd kf.1 (Nat.succ_ne_zero _)
/-- sum(the generator at a) -/
theorem call_sumG {A : Around} {E : Value → Shared → Prop} {a : Addr} {g : Nat} {Q : Value → Shared → Prop} {s : Shared} (isg : s.heap.IsGen a g)
    (hS : ∃ (elt iter tg : Expr) (scope : Scope) (pos : Pos) (I : Addr) (cenv : Env) (n : Nat) (val : Nat → Int) (Ke : Nat → Value → Shared → Prop) (Kd : Nat → Shared → Prop) (Kf Kz : Shared → Prop), Gw prog w A.in1.in1 elt iter tg scope pos I cenv n Ke Kd Kf ∧ Sw n Ke Kd a g s.heap.objs.size val ∧
      (∀ (A' : Around) (s : Shared) (Q : Value → Shared → Prop) (E : Value → Shared → Prop), Kd 0 s → Q (.ref I) s → wpAny (model prog w) A' (pyIter (.ref I)) Q E s) ∧
      (∀ (s : Shared) h2, Kf s → (∀ b o, s.heap.get? b = some o → h2.get? b = some o) → Kz { s.setGen g .finished with heap := h2 }) ∧
      Kd 0 { s with toks := s.toks + 1, heap := s.heap.push { cls := .type "list", data := .seq #[.int 0 s.toks] } } ∧ s.gens[g]? = some (.fresh (.compStart (.GeneratorExp elt [⟨tg, iter, [], 0⟩] scope pos) 0 (.ref I) .none cenv)) ∧ ∀ s2 t, Kz s2 → Q (.int (preSum val n) t) s2)
    (hroom : A.depth < recursionLimit) : wpAny (model prog w) A (call (.builtin "sum") [.ref a]) Q E s := by
  obtain ⟨elt, iter, tg, scope, pos, I, cenv, n, val, Ke, Kd, Kf, Kz, G, W, hself, z1, kd, hgs, hQ⟩ := hS
  refine call_function_tree F.kind_sum F.plain_sum F.entry_sum (F.args_sum1 _) ?_
  unfold Builtin.«sum»
  simp only [List.length_cons, List.length_nil]
  rw [if_neg (by decide)]
  refine wpAny_bind (wpAny_of_eq (show Builtin.Builtins.bindParams "sum" ["start"] 0 { } = pure [none] from rfl) ?_)
  refine wpAny_bind (wpAny_pyIter_gen isg ?_)
  refine wpAny_bind (wpAny_mkInt ?_)
  refine wpAny_bind (wpAny_pure ?_)
  simp only [List.forIn_cons, List.forIn_nil]
  refine wpAny_bind (wpAny_bind (wpAny_bind (wpAny_isInstance (T := "int") (b := false) (typeIs_int _ _ _) PySem.sub_int_str ?_)))
  simp only [Bool.false_eq_true, if_false]
  refine wpAny_pure (wpAny_bind (wpAny_bind (wpAny_isInstance (T := "int") (b := false) (typeIs_int _ _ _) PySem.sub_int_bytes ?_)))
  simp only [Bool.false_eq_true, if_false]
  refine wpAny_pure (wpAny_bind (wpAny_bind (wpAny_isInstance (T := "int") (b := false) (typeIs_int _ _ _) PySem.sub_int_bytearray ?_)))
  simp only [Bool.false_eq_true, if_false]
  refine wpAny_pure (wpAny_pure ?_)
  refine wpAny_bind (wpAny_newObj_type ?_)
  refine wpAny_pure ⟨plainId_quiet F.plain_sum_loop _, sum_loop G W hroom z1 n 0 _ 0 (.inl rfl) (Nat.sub_zero _) (Nat.zero_le _) ⟨kd, _, hgs, fun s2 kd2 => ⟨rfl, ?_⟩⟩ fun s2 t kz => hQ s2 t kz⟩
  rw [Nat.sub_zero]
  exact seg_start G hself s2 s2 kd2
end
end Gs
set_option Elab.async false
set_option linter.all false
set_option maxRecDepth 100000
set_option maxHeartbeats 4000000
namespace Gs
open PySem PySem.Spec PyProof.Rows L2
/-- sum over a generator whose element may call: W S j the word of what is tracked, the sum so far standing at S -/
def tSumG (P : Addr) (own : List (Str × Nat)) (wi : TI) (gt : TG) (te : TE) : TE := fun σ H Q => wi σ H fun J H1 => GxR.TabG H1 P ∧ ∃ (n : Nat) (val : Nat → Int) (W : Addr → Nat → L2.St → Hp → Prop),
  (∀ H2 S, GxR.Tabbed P H1 H2 → H2 S = none → W S 0 (wipe σ (own.map (·.2))) (upd H2 S (.lst [.int 0]))) ∧ (∀ S j σ' H', j < n → H' S = some (.lst [.int (preSum val j)]) → W S j σ' H' → J.go j H' ∧ ∀ x H2, J.yld j H' x H2 → gt x σ' H2 fun σ3 H3 => te σ3 H3 fun v H4 => v = .int (val j) ∧ H4 S = some (.lst [.int (preSum val j)]) ∧ W S (j + 1) σ3 (upd H4 S (.lst [.int (preSum val j + val j)]))) ∧
  (∀ S σ' H', W S n σ' H' → J.stop n H') ∧ ∀ S σ' H', W S n σ' H' → Q (.int (preSum val n)) H'
section
variable {X : Cx}
theorem pe_sumG {c P : Addr} {elt iter tg : Expr} {p pos gpos : Pos} {scope : Scope} {own : List (Str × Nat)} {wi : TI} {gt : TG} {te : TE} {k : Nat}
    (hr : Room (k + 1) X.A) (hg : Gl X "sum") (hm : X.mg "sum" = none) (hb : bootBuiltins "sum" = some (.builtin "sum")) (TB : GxR.TabB X.base X.mg c P) (hcode : X.env.code = .ref c) (S0 : Gx.GenN X.N X.env.scope scope own) (hN : X.N.Nodup) (hi : PI X tg iter wi)
    (ht : ∀ (C : Addr) (code : Value) (s : Shared) (H : Hp) (A' : Around) (fp : List Addr), PG (Gx.gcx X s H A' (Gx.genv X scope C code) fp) tg gt)
    (hel : ∀ (C : Addr) (code : Value) (s : Shared) (H : Hp) (A' : Around) (fp : List Addr), Room k A' → PE (Gx.gcx X s H A' (Gx.genv X scope C code) fp) elt te)
    (hs : ∀ v, genFold iter X.env v = pure v)
    (he : starEach [.GeneratorExp elt [⟨tg, iter, [], 0⟩] scope gpos] X.env = (false, eval (.GeneratorExp elt [⟨tg, iter, [], 0⟩] scope gpos) X.env) :: starEach [] X.env := by rfl) :
    PE X (.Call (.Name "sum" p) [.GeneratorExp elt [⟨tg, iter, [], 0⟩] scope gpos] [] pos) (tSumG P own wi gt te) := by
  refine ⟨fun pins s σ H Q I h => ?_⟩
  refine wpAny_Call_Name_kw (ld_blt I hg hm hb ?_)
  refine PyProof.Rows.callWith_builtin1 ?_ he (by rfl)
  rw [he]
  show wpAny _ _ (spliced ((false, eval (.GeneratorExp elt [⟨tg, iter, [], 0⟩] scope gpos) X.env) :: backTo pos (starEach [] X.env))) _ _ s
  have hfree : ∀ y ∈ scope.names, y.2 = .free → ∃ c, X.env.cells.lookup y.1 = some c := fun y hy e => by
    rcases S0.free y hy e with z | z
    · exact I.ok.has _ (.inl z)
    · exact I.ok.has _ (.inr z)
  refine Calls.spliced_cons (wpAny_GeneratorExp_make S0.co (closure_ok hfree) S0.cell S0.dot S0.kind hr.depth ?_ hs)
  refine thn (hi.run pins s σ H _ I h) fun xv s1 h1 => thn h1 fun itv s2 h2 => ?_
  obtain ⟨it, fp, tn, J, H2, rfl, I2, T, st2, f2, ⟨ps, hP, ht0⟩, n, val, W, w0, turn, stop, fin⟩ := h2
  refine ⟨I2.nolimit, ?_⟩
  have hPs : s2.heap.get? P = some { cls := .none, data := .fields ps } := I2.hok P _ hP
  have nP : ∀ b ∈ fp, b ≠ P := fun b hb e => by
    have := (f2 b hb).1
    rw [e, hP] at this
    cases this
  have cd : PySem.W.CodeHd s2.heap c P := TB.code.keeps I2.bk
  have cont : ∀ (code : Value) (h3 : Heap) (tk : Nat) (ps' : Array Value), Heap.ExtBut P s2.heap h3 → s2.heap.objs.size ≤ h3.objs.size → h3.get? P = some { cls := .none, data := .fields ps' } → (∃ more, ps' = ps ++ more) → TriplesOk ps'.toList →
      wpAny (model X.prog X.w) X.A (builtinsFor X.env.globals X.env.builtins) (fun bi s4 => ∀ h', h'.Ns s4.heap.objs.size (fun y => if y = ".0" then some (.ref it) else none) → Heap.SameBut s4.heap.objs.size (s4.heap.push { cls := .type "frame", data := .dict #[] }) h' →
        wpAny (model X.prog X.w) X.A (spliced (backTo pos (starEach [] X.env))) (fun us s5 => wpAny (model X.prog X.w) X.A (call (.builtin "sum") (.ref h'.objs.size :: us)) (EP X pins σ Q) X.xe s5) X.xe { s4 with
            gens := s4.gens.push (.fresh (.compStart (.GeneratorExp elt [⟨tg, iter, [], 0⟩] scope gpos) 0 (.ref it) .none (genEnv scope (cloFrom X.env.cells scope.names []) s4.heap.objs.size code bi X.env))),
            toks := s4.toks + 1 + 1 + 1,
            heap := h'.push { cls := .type "generator", data := .fields #[.int s4.gens.size 0, .str "<genexpr>" (s4.toks + 1), .str (X.env.qual ++ "<genexpr>") (s4.toks + 1 + 1)] } }) X.xe { s2 with heap := h3, toks := tk } := by
    intro code h3 tk ps' hx hsz hP3 hmore ht3
    obtain ⟨bm, ob, e1, e2, e3, e4, e5, e6, e7, e8⟩ := TB.bm
    obtain ⟨more, em⟩ := hmore
    have keep3 : ∀ b u, b ≠ P → s2.heap.get? b = some u → h3.get? b = some u := fun b u hb e => hx b u hb e
    have I3 : Inv X pins σ (upd H2 P (.tbl (ps ++ more))) { s2 with heap := h3, toks := tk } := by
      have z := GxR.inv_tab (more := more) (h' := h3) (g' := s2.gens) (d' := s2.drawn) (t' := tk) I2 hP keep3 (by rw [← em]; exact hP3) I2.bare
      exact z
    refine wpAny_builtinsFor (m := X.mg) (by rw [I2.ok.glob]; exact (I2.mod.glob.keeps I2.bk).extBut hx TB.gP) e1 e2 (keep3 _ _ e4 (I2.bk _ _ e5)) e6 e7 e8 ?_
    intro h' ns sb
    refine Calls.spliced_nil ?_
    have hfp : ∀ b ∈ fp, FpOk X pins (upd H2 P (.tbl (ps ++ more))) b ∧ b < h3.objs.size := fun b hb => by
      obtain ⟨ob, e, _⟩ := T.obj _ _ st2 b hb
      refine ⟨⟨by rw [upd_ne (nP b hb)]; exact (f2 b hb).1, (f2 b hb).2⟩, Nat.lt_of_lt_of_le (Heap.lt_size e) hsz⟩
    have hF : (X.A.in1.in1.over (.compLoop (.GeneratorExp elt [⟨tg, iter, [], 0⟩] scope gpos) 0 (.ref it) .none (Gx.genv X scope h3.objs.size code)) []).frames = some (Gx.genv X scope h3.objs.size code :: X.stack) := by
      show pushEnvs [Gx.genv X scope h3.objs.size code] (pushEnvs [] X.A.frames) = _
      rw [I2.ok.frames]
      rfl
    have J0 := Gx.gcx_start (s := { s2 with heap := h3, toks := tk }) (A' := X.A.in1.in1.over (.compLoop (.GeneratorExp elt [⟨tg, iter, [], 0⟩] scope gpos) 0 (.ref it) .none (Gx.genv X scope h3.objs.size code)) []) (code := code) (it := .ref it)
      (gs := .fresh (.compStart (.GeneratorExp elt [⟨tg, iter, [], 0⟩] scope gpos) 0 (.ref it) .none (Gx.genv X scope h3.objs.size code)))
      (o := { cls := .type "generator", data := .fields #[.int s2.gens.size 0, .str "<genexpr>" (tk + 1), .str (X.env.qual ++ "<genexpr>") (tk + 1 + 1)] }) (tk := tk + 1 + 1 + 1) I3 S0 hN hfp hr.hd hF rfl (fun v z => by cases z) rfl ns sb
    have hsz' : h'.objs.size = h3.objs.size + 1 := by
      have z := sb.1
      rw [Heap.size_push] at z
      exact z
    have kp5 : ∀ b u, h3.get? b = some u → (h'.push { cls := .type "generator", data := .fields #[.int s2.gens.size 0, .str "<genexpr>" (tk + 1), .str (X.env.qual ++ "<genexpr>") (tk + 1 + 1)] }).get? b = some u := fun b u e => Heap.get?_push_of_some _ (sb.extBut b u (Nat.ne_of_lt (Heap.lt_size e)) (Heap.get?_push_of_some _ e))
    have st5 : tn 0 (h'.push { cls := .type "generator", data := .fields #[.int s2.gens.size 0, .str "<genexpr>" (tk + 1), .str (X.env.qual ++ "<genexpr>") (tk + 1 + 1)] }) := T.keep _ _ _ st2 fun b hb u e => kp5 b u (keep3 b u (nP b hb) e)
    generalize hgo : ({ cls := .type "generator", data := .fields #[.int s2.gens.size 0, .str "<genexpr>" (tk + 1), .str (X.env.qual ++ "<genexpr>") (tk + 1 + 1)] } : Obj) = go at J0 st5 ⊢
    generalize hA' : X.A.in1.in1.over (.compLoop (.GeneratorExp elt [⟨tg, iter, [], 0⟩] scope gpos) 0 (.ref it) .none (Gx.genv X scope h3.objs.size code)) [] = A' at J0
    have rA : Room k A' := by rw [← hA']; exact Gx.room_gen hr
    have stat : ∀ {H' : Hp}, (∀ b ∈ fp, H' b = none) → ∀ b ∈ fp, FpOk (Gx.gcx X { s2 with heap := h3, toks := tk } (upd H2 P (.tbl (ps ++ more))) A' (Gx.genv X scope h3.objs.size code) fp) [(h'.objs.size, go)] H' b := fun {H'} hn b hb => by
      refine ⟨hn b hb, (J0.ok.exf b hb).1, J0.ok.exfs b hb, .inl hb, (J0.ok.exf b hb).2, fun q hq => ?_⟩
      have e : q = (h'.objs.size, go) := by simpa using hq
      subst e
      have h9 : (b : Nat) < h3.objs.size := (hfp b hb).2
      intro e
      have e2 : (h'.objs.size : Nat) = b := e
      rw [hsz'] at e2
      exact Nat.not_lt_of_le (Nat.le_of_eq e2) (Nat.lt_succ_of_lt h9)
    let S : Addr := (h'.push go).objs.size
    let Kd : Nat → Shared → Prop := fun j s' => ∃ σ' H', Inv (Gx.gcx X { s2 with heap := h3, toks := tk } (upd H2 P (.tbl (ps ++ more))) A' (Gx.genv X scope h3.objs.size code) fp) [(h'.objs.size, go)] σ' H' s' ∧ W S j σ' H' ∧ H' S = some (.lst [.int (preSum val j)]) ∧ tn j s'.heap ∧ (∀ b ∈ fp, H' b = none) ∧ s2.gens.size + 1 ≤ s'.gens.size
    let Ke : Nat → Value → Shared → Prop := fun j y s' => ∃ σ' H', Inv (Gx.gcx X { s2 with heap := h3, toks := tk } (upd H2 P (.tbl (ps ++ more))) A' (Gx.genv X scope h3.objs.size code) fp) [(h'.objs.size, go)] σ' H' s' ∧ W S (j + 1) σ' (upd H' S (.lst [.int (preSum val j + val j)])) ∧ H' S = some (.lst [.int (preSum val j)]) ∧ tn (j + 1) s'.heap ∧ (∀ b ∈ fp, H' b = none) ∧ s2.gens.size + 1 ≤ s'.gens.size ∧ ∃ t, y = .int (val j) t
    let Kf : Shared → Prop := fun s' => ∃ σ' H', Inv (Gx.gcx X { s2 with heap := h3, toks := tk } (upd H2 P (.tbl (ps ++ more))) A' (Gx.genv X scope h3.objs.size code) fp) [(h'.objs.size, go)] σ' H' s' ∧ W S n σ' H'
    let Kz : Shared → Prop := fun s' => ∃ σ' H', Inv X pins σ H' s' ∧ W S n σ' H'
    have hch : ∀ b ∈ fp, (b ∈ X.ex ∨ X.s_0.heap.objs.size ≤ b) ∧ b ≠ X.env.locals ∧ (∀ x c, X.env.cells.lookup x = some c → c ≠ b) ∧ ∀ p ∈ X.pn ++ pins, p.1 ≠ b := fun b hb => ⟨(f2 b hb).2.2.2.1, (f2 b hb).2.1, (f2 b hb).2.2.2.2.1, (f2 b hb).2.2.2.2.2⟩
    have Sfp : ∀ b ∈ fp, b ≠ S := fun b hb e => by
      have h9 : (b : Nat) < h3.objs.size := (hfp b hb).2
      have h8 : (S : Nat) = h'.objs.size + 1 := Heap.size_push _ _
      have h7 : (b : Nat) < S := by
        rw [h8, hsz']
        exact Nat.lt_succ_of_lt (Nat.lt_succ_of_lt h9)
      rw [e] at h7
      exact Nat.lt_irrefl _ h7
    have keepT : ∀ j (s9 : Shared) (f : Obj → Obj), tn j s9.heap → tn j (s9.heap.update S f) := fun j s9 f st => T.keep _ _ _ st fun b hb o e => (Heap.get?_update_other _ _ (Ne.symm (Sfp b hb))).trans e
    have G : Gw X.prog X.w X.A.in1.in1 elt iter tg scope gpos it (Gx.genv X scope h3.objs.size code) n Ke Kd Kf := by
      refine ⟨hr.hd, fun j s' hj kd => ?_, fun s' kd => ?_, S0.co⟩
      · obtain ⟨σ', H', Ig, wj, hSj, stj, frj, gz⟩ := kd
        obtain ⟨goj, step⟩ := turn S j σ' H' hj hSj wj
        rw [show X.A.in1.in1.over (gcode elt tg iter scope gpos it (Gx.genv X scope h3.objs.size code)) [] = A' from hA']
        refine Gx.thnG gz (T.item (Gx.gcx X { s2 with heap := h3, toks := tk } (upd H2 P (.tbl (ps ++ more))) A' (Gx.genv X scope h3.objs.size code) fp) rfl rfl rfl rfl j _ s' σ' H' (fun _ _ => False) Ig (stat frj) stj goj) fun r s4 g4 ⟨u, hu, h4⟩ => ⟨u, hu, ?_⟩
        refine Gx.thnG g4 h4 fun _ s5 g5 ⟨x, H5, I5, r5, y5, st5, fr5⟩ => ?_
        have I5' := I5.pinned (stat fr5) (T.obj _ _ st5)
        refine Gx.thnG g5 ((ht h3.objs.size code _ _ A' fp).run _ s5 σ' H5 x u _ I5' r5 (step x H5 y5)) fun _ s6 g6 ⟨σ6, H6, I6, q6⟩ => ?_
        refine Gx.thnG g6 ((hel h3.objs.size code _ _ A' fp rA).run _ s6 σ6 H6 _ I6 q6) fun y s7 g7 ⟨v, H7, I7, r7, ev, q7, q8⟩ => ?_
        subst ev
        refine ⟨σ6, H7, I7.unpinned, q8, q7, T.keep _ _ _ st5 fun b hb o e => (I7.pin (b, o) (List.mem_append_right _ (List.mem_append_right _ (mem_pinsAt hb e)))).1, fun b hb => ?_, g7, r7⟩
        obtain ⟨o, e, d⟩ := T.obj _ _ st5 b hb
        exact (I7.pin (b, o) (List.mem_append_right _ (List.mem_append_right _ (mem_pinsAt hb e)))).2.1
      · obtain ⟨σ', H', Ig, wj, hSj, stj, frj, gz⟩ := kd
        rw [show X.A.in1.in1.over (gcode elt tg iter scope gpos it (Gx.genv X scope h3.objs.size code)) [] = A' from hA']
        refine thn (T.done (Gx.gcx X { s2 with heap := h3, toks := tk } (upd H2 P (.tbl (ps ++ more))) A' (Gx.genv X scope h3.objs.size code) fp) rfl rfl rfl rfl n _ s' σ' H' (fun _ _ => False) Ig (stat frj) stj (stop S σ' H' wj)) fun r s4 ⟨e, I4⟩ => ⟨e, σ', H', I4, wj⟩
    have one : ∀ {x : Int} {its : List Value}, Vals [.int x] its → ∃ t, its = [.int x t] := fun {x its} r => by
      obtain ⟨u, rfl, ru⟩ := vals1 r
      obtain ⟨t, rfl⟩ := ru
      exact ⟨t, rfl⟩
    have W0 : Sw n Ke Kd h'.objs.size s2.gens.size S val := by
      refine ⟨fun j s' kd => ?_, fun j s' gs hb kd => ?_, fun j s' kd => ?_, fun j v s' hj ke => ?_, fun j v s' gs t tk' hj ke hb => ?_, fun j s' t tk' kd => ?_⟩
      · obtain ⟨σ', H', Ig, _⟩ := kd
        have q := (Ig.pin (h'.objs.size, go) (by simp)).1
        rw [← hgo] at q
        exact ⟨⟨_, _, _, q, rfl, rfl, rfl⟩, Ig.nolimit⟩
      · obtain ⟨σ', H', Ig, wj, hSj, stj, frj, gz⟩ := kd
        exact ⟨σ', H', Gx.inv_slp Ig (Gx.slp_set hb), wj, hSj, stj, frj, by rw [GenW.setGen_size]; exact gz⟩
      · obtain ⟨σ', H', Ig, wj, hSj, stj, frj, gz⟩ := kd
        obtain ⟨z, its, m, r, hl, e⟩ := Ig.lstM hSj
        obtain ⟨t, rfl⟩ := one r
        exact ⟨t, m, e⟩
      · obtain ⟨σ', H', Ig, wj, hSj, stj, frj, gz, t, rfl⟩ := ke
        obtain ⟨z, its, m, r, hl, e⟩ := Ig.lstM hSj
        obtain ⟨t0, rfl⟩ := one r
        exact ⟨t, t0, m, rfl, e, by omega⟩
      · obtain ⟨σ', H', Ig, wj, hSj, stj, frj, gz, t1, rfl⟩ := ke
        obtain ⟨z, its, m, r, hl, e⟩ := Ig.lstM hSj
        obtain ⟨t0, rfl⟩ := one r
        have I2' := Gx.inv_slp Ig (Gx.slp_set (g := s2.gens.size) hb)
        refine ⟨σ', _, I2'.lset (f := fun _ => #[.int (preSum val j + val j) t]) (its' := [.int (preSum val j + val j) t]) (ys := [.int (preSum val j + val j)]) hSj e rfl (.cons ⟨t, rfl⟩ .nil) (by show 1 ≤ sizeLine; decide), wj, upd_same, keepT _ _ _ stj, fun b hb => by rw [upd_ne (Sfp b hb)]; exact frj b hb, by
          show _ ≤ (s'.setGen s2.gens.size gs).gens.size
          rw [GenW.setGen_size]
          exact gz⟩
      · obtain ⟨σ', H', Ig, wj, hSj, stj, frj, gz⟩ := kd
        obtain ⟨z, its, m, r, hl, e⟩ := Ig.lstM hSj
        obtain ⟨t0, rfl⟩ := one r
        have hu : upd H' S (.lst [.int (preSum val j + val j)]) = H' := by
          funext b
          by_cases eb : b = S
          · rw [eb, upd_same]
            exact hSj.symm
          · exact upd_ne eb
        have I3' := Ig.lset (t' := tk') (f := fun _ => #[.int (preSum val j + val j) t]) (its' := [.int (preSum val j + val j) t]) (ys := [.int (preSum val j + val j)]) hSj e rfl (.cons ⟨t, rfl⟩ .nil) (by show 1 ≤ sizeLine; decide)
        rw [hu] at I3'
        exact ⟨σ', H', I3', wj, hSj, keepT _ _ _ stj, frj, gz⟩
    have fr0 : ∀ b ∈ fp, upd H2 P (.tbl (ps ++ more)) b = none := fun b hb => (hfp b hb).1.1
    have isg0 : (h'.push go).IsGen h'.objs.size s2.gens.size := by
      have q := (J0.pin (h'.objs.size, go) (by simp)).1
      rw [← hgo] at q ⊢
      exact ⟨_, _, _, q, rfl, rfl, rfl⟩
    have nS : upd H2 P (.tbl (ps ++ more)) S = none := J0.hok.fresh (Nat.le_refl _)
    refine call_sumG isg0 ⟨elt, iter, tg, scope, gpos, it, _, n, val, Ke, Kd, Kf, Kz, G, W0, fun A9 s9 Q9 E9 kd q => ?_, fun s9 h9 kf keep => ?_, ⟨_, upd (upd H2 P (.tbl (ps ++ more))) S (.lst [.int 0]), ?_, w0 _ S ⟨⟨ps ++ more, upd_same, by rw [← em]; exact ht3⟩, fun b hb => upd_ne hb⟩ nS, upd_same, T.keep _ _ _ st5 fun b hb o e => Heap.get?_push_of_some _ e, fun b hb => by rw [upd_ne (Sfp b hb)]; exact fr0 b hb, by show _ ≤ (s2.gens.push _).size; rw [Array.size_push]; exact Nat.le_refl _⟩, ?_, fun s9 t kz => ?_⟩ hr.depth
    · obtain ⟨_, _, _, _, _, st9, _⟩ := kd
      exact T.self A9 0 s9 Q9 E9 st9 q
    · obtain ⟨σ', H', Ig, wj⟩ := kf
      exact ⟨σ', H', I3.call' (ch := fp) Ig.os (Ig.base.trans (Un.kept keep)) (Ig.hok.kept keep) (Gx.bare_set Ig.bare rfl) hch, wj⟩
    · exact J0.laid (fun b u e => Heap.get?_push_of_some _ e) (Nat.le_refl _) ⟨by decide, [.int 0 _], 0, .cons ⟨_, rfl⟩ .nil, Heap.get?_push_size _ rfl⟩
    · show (s2.gens.push _)[s2.gens.size]? = _
      exact Array.getElem?_push_size
    · obtain ⟨σ', H', I9, wj⟩ := kz
      exact ⟨.int _, H', I9, ⟨t, rfl⟩, fin S σ' H' wj⟩
  cases hf : codeAmong gpos ps.toList with
  | none =>
    refine wpAny_genexprCodeX hcode (cd.code hPs ht0) (cd.tab hPs) hf fun c' h' tk hx hge hlt hco' _ htab' _ => ?_
    obtain ⟨o1, vs, f1, tf, fl, tg, inF, tx, tt, op, _, _, _, _, _, _, _, _, _, htr, _⟩ := hco'
    exact cont _ h' tk _ hx (Nat.le_trans hge (Nat.le_of_lt hlt)) htab'.2 ⟨_, rfl⟩ htr
  | some cv =>
    refine wpAny_genexprCode_hit hcode (cd.code hPs ht0) hf ?_
    exact cont cv s2.heap s2.toks ps (Heap.ExtBut.refl _ _) (Nat.le_refl _) hPs ⟨#[], by simp⟩ ht0
end
end Gs
set_option Elab.async false
set_option linter.all false
set_option maxRecDepth 100000
set_option maxHeartbeats 4000000
/-! len(set(t)), t a tuple of texts, any number of them -/
namespace Sx
open PySem PySem.Spec PyProof.Rows L2
/-- how many are unlike -/
def ndr : List Str → Nat
  | [] => 0
  | x :: r => if x ∈ r then ndr r else ndr r + 1
theorem ndr_le : ∀ l : List Str, ndr l ≤ l.length
  | [] => Nat.le_refl _
  | x :: r => by
    have h := ndr_le r
    rw [ndr, List.length_cons]
    split <;> omega
theorem ndr_eq : ∀ l : List Str, ndr l = l.length ↔ l.Nodup
  | [] => by simp [ndr]
  | x :: r => by
    have h := ndr_le r
    have ih := ndr_eq r
    rw [ndr, List.length_cons, List.nodup_cons]
    by_cases hx : x ∈ r
    · rw [if_pos hx]
      exact ⟨fun e => by omega, fun e => absurd hx e.1⟩
    · rw [if_neg hx]
      exact ⟨fun e => ⟨hx, ih.mp (by omega)⟩, fun e => by rw [ih.mpr e.2]⟩
def nd (l : List Str) : Nat := ndr l.reverse
theorem nd_snoc (l : List Str) (x : Str) : nd (l ++ [x]) = if x ∈ l then nd l else nd l + 1 := by
  unfold nd
  rw [List.reverse_append]
  show ndr (x :: l.reverse) = _
  rw [ndr]
  simp
theorem nd_le (l : List Str) : nd l ≤ l.length := by
  have h := ndr_le l.reverse
  rw [List.length_reverse] at h
  exact h
theorem nd_eq (l : List Str) : nd l = l.length ↔ l.Nodup := by
  have h := ndr_eq l.reverse
  rw [List.length_reverse, (List.reverse_perm l).nodup_iff] at h
  exact h
section
variable {prog : Program} {w : World}
theorem fill {A : Around} {R : Result → Shared → Prop} {I : Addr} {fp wr : List Addr} {G : Array GenState → Array GenState → Prop} {n : Nat} {P : Nat → Value → Prop} {St : Nat → Shared → Prop}
    (walk : WalksS prog w A.in1 I fp wr G n P St) (a : Addr) (out : a ∉ fp) (xs : List Str) (len : xs.length = n) (few : n ≤ 1000) (item : ∀ i v, P i v → ∃ t, v = .str (xs.getD i Str.empty) t) :
    ∀ (k i : Nat) (s : Shared), n - i = k → i ≤ n → St i s → s.heap.SetOf (PySem.strKind prog w) a (fun z => decide (z ∈ xs.take i)) (nd (xs.take i)) →
      (∀ s', Moved (a :: wr) G s s' → s'.heap.SetOf (PySem.strKind prog w) a (fun z => decide (z ∈ xs)) (nd xs) → R (.ok (.ret .none)) s') →
      codeAny (model prog w) A (.builtin "set.update.loop" ⟨[.ref a, .ref I], []⟩) R s := by
  have away : a ∉ wr := fun z => out (walk.sub _ z)
  have more : ∀ b ∈ wr, b ∈ a :: wr := fun b hb => List.mem_cons_of_mem _ hb
  intro k
  induction k with
  | zero =>
    intro i s ek le st have_ want
    obtain rfl : i = n := by omega
    refine codeAny_builtin PyProof.Rows.F.entry_set_update_loop ?_
    rw [Around.under_plainId PyProof.Rows.F.plain_set_update_loop _]
    refine wpAny_bind (m := pyNext (.ref I)) (walk.done s _ _ st fun s' mv => ?_)
    rw [List.take_of_length_le (Nat.le_of_eq len)] at have_
    refine wpAny_pure (want s' (mv.mono more) ?_)
    obtain ⟨o, es, ep, t, ho, rest⟩ := have_
    exact ⟨o, es, ep, t, mv.heap a _ away ho, rest⟩
  | succ k ih =>
    intro i s ek le st have_ want
    have lt : i < n := by omega
    refine codeAny_builtin PyProof.Rows.F.entry_set_update_loop ?_
    rw [Around.under_plainId PyProof.Rows.F.plain_set_update_loop _]
    refine wpAny_bind (m := pyNext (.ref I)) (walk.item i s _ _ lt st fun v s' pv st' mv => ?_)
    obtain ⟨t, rfl⟩ := item i v pv
    have held : s'.heap.SetOf (PySem.strKind prog w) a (fun z => decide (z ∈ xs.take i)) (nd (xs.take i)) := by
      obtain ⟨o, es, ep, tb, ho, rest⟩ := have_
      exact ⟨o, es, ep, tb, mv.heap a _ away ho, rest⟩
    have few2 : nd (xs.take i) + 1 < scanBound := by
      have h1 := nd_le (xs.take i)
      have h2 : (xs.take i).length ≤ xs.length := by rw [List.length_take]; omega
      unfold scanBound
      omega
    refine wpAny_bind (m := holding [Value.str (xs.getD i Str.empty) t] (setAdd a (.str (xs.getD i Str.empty) t))) (wpAny_holding ?_)
    unfold setAdd
    refine wpAny_holding (wpAny_bind ((PySem.strKind prog w).pyHash (k := xs.getD i Str.empty) (strKind_is _ _ _ _) ?_))
    refine wpAny_setAddHashed_of (knd := PySem.strKind prog w) (s := { s' with toks := s'.toks + 1 }) (strKind_is _ _ _ _) rfl held few2 fun h' sb put => ?_
    have tk : xs.take (i + 1) = xs.take i ++ [xs.getD i Str.empty] := by
      rw [List.take_add_one, List.getD_eq_getElem?_getD, List.getElem?_eq_getElem (by omega)]
      rfl
    have put2 : h'.SetOf (PySem.strKind prog w) a (fun z => decide (z ∈ xs.take (i + 1))) (nd (xs.take (i + 1))) := by
      refine PyProof.Rows.SetOf_congr put (fun z => ?_) ?_
      · rw [tk]
        simp [List.mem_append]
      · rw [tk, nd_snoc]
        simp
    refine wpAny_pure ⟨plainId_quiet PyProof.Rows.F.plain_set_update_loop _, ih (i + 1) _ (by omega) lt (walk.frame _ s' _ _ st' (Nat.le_succ _) fun b hb o e => ?_) put2 fun s'' mv2 got => ?_⟩
    · rw [sb.2 b (fun z : b = a => out (by rw [← z]; exact hb))]
      exact e
    · refine want s'' (Moved.trans walk.gtrans ((mv.mono more).then_heap (Nat.le_succ _) fun b o hb e => ?_) mv2) got
      rw [sb.2 b (fun z : b = a => hb (by rw [z]; exact List.mem_cons_self))]
      exact e
end
section
variable {prog : Program} {w : World} {A : Around} {E : Value → Shared → Prop} {s : Shared}
abbrev eset (b : Bool) : Obj := { cls := .type "set", dict := none, data := .set #[] 0 (.fresh 0 0 b) }
set_option maxHeartbeats 6000000 in
theorem call_set_tup {l : Addr} {items : Array Value} {xs : List Str} {Q : Value → Shared → Prop} (hh : A.handled = none) (tup : s.heap.IsTuple l items) (are : PyProof.Rows.StrsAre items.toList xs) (few : xs.length ≤ 1000)
    (h : ∀ (h' : Heap) (tk : Nat), h'.SetOf (PySem.strKind prog w) s.heap.objs.size (fun z => decide (z ∈ xs)) (nd xs) → (∀ b o, b < s.heap.objs.size → s.heap.get? b = some o → h'.get? b = some o) → Q (.ref s.heap.objs.size) { s with heap := h', toks := tk }) :
    wpAny (model prog w) A (call (.type "set") [.ref l]) Q E s := by
  obtain ⟨c, tl, hmro⟩ := PySem.F.called_set.mro
  have hmade := PySem.F.called_set.made
  have hsub := PySem.F.called_set.sub
  refine wpAny_call (codeAny_of_tree (show wpAny _ _ (callAny (.type "set") _) _ _ _ from ?_))
  refine wpAny_pure ⟨Code.quiet_builtin _ (by decide +kernel), codeAny_builtin PySem.F.entry_type_call ?_⟩
  rw [Around.under_plain (weight_type_call_type "set" [.ref l] []) rfl]
  have f1 := PySem.F.called_set.notType
  have f2 := PySem.F.called_set.canCreate
  have f3 := PySem.F.typeCall_set_1 (.ref l)
  repeat (any_goals (first | assumption | wp_step))
  refine codeAny_mono (code_set_new_1 (.ref l) (E := E) (Q₁ := fun v s1 => ∃ b : Bool, v = .ref s.heap.objs.size ∧ s1 = { s with heap := s.heap.push (eset b) }) fun b => ⟨b, rfl, rfl⟩) fun r s1 hr => ?_
  cases r with
  | error e => exact hr
  | ok fl =>
    cases fl with
    | ret v =>
      obtain ⟨b, rfl, rfl⟩ := hr
      have at0 : (s.heap.push (eset b)).get? s.heap.objs.size = some (eset b) := Heap.get?_push_size _ rfl
      have ty0 : Shared.TypeIs { s with heap := s.heap.push (eset b) } (.ref s.heap.objs.size) "set" := ⟨_, at0, rfl⟩
      have f4 := PySem.F.called_set.init.lookup
      have f5 := PySem.F.called_set.init.bind (.ref s.heap.objs.size)
      repeat (any_goals (first | assumption | wp_step))
      refine codeAny_mono (codeAny_call_builtin (R := wants (fun r s2 => r = .none ∧ ∃ h' tk, s2 = { s with heap := h', toks := tk } ∧ h'.SetOf (PySem.strKind prog w) s.heap.objs.size (fun z => decide (z ∈ xs)) (nd xs) ∧ ∀ b o, b < s.heap.objs.size → s.heap.get? b = some o → h'.get? b = some o) E)
        PySem.F.called_set.init.plain PySem.F.entry_set_init (check_set_init_1 ty0 ?_)) fun r2 s2 hr2 => ?_
      · obtain ⟨ol, hol, hcl, nl, hdl⟩ := tup
        obtain ⟨ocls, odict, odata, oslots⟩ := ol
        simp only at hcl hdl
        subst hcl
        subst hdl
        have hol' : (s.heap.push (eset b)).get? l = some { cls := .type "tuple", dict := odict, data := .seq items nl, slots := oslots } := Heap.get?_push_of_some _ hol
        have g1 := PySem.F.sub_tuple_set
        have g2 := PySem.F.sub_tuple_frozenset
        have g3 : (Value.type "tuple" == Value.type "dict") = false := by decide
        have tup1 : (s.heap.push (eset b)).IsTuple l items := ⟨_, hol', rfl, nl, rfl⟩
        unfold Builtin.«set.__init__» noKeywords Builtin.Frozenset.updateFrom
        generalize hPI : pyIter = PI
        wp_walk
        subst hPI
        refine wpAny_pyIter_tuple tup1 (wpAny_bind (wpAny_runValue ?_))
        have lt0 : l < s.heap.objs.size := Heap.lt_size hol
        have hh3 : A.in1.in1.in1.handled = none := by simp [hh]
        have ne1 : l ≠ (s.heap.push (eset b)).objs.size := by
          rw [Heap.size_push]
          exact Nat.ne_of_lt (Nat.lt_succ_of_lt lt0)
        have out1 : s.heap.objs.size ∉ [(s.heap.push (eset b)).objs.size, l] := fun z => by
          rw [Heap.size_push] at z
          rcases List.mem_cons.mp z with z | z
          · exact Nat.ne_of_lt (Nat.lt_succ_self _) z
          · exact Nat.ne_of_gt lt0 (List.mem_singleton.mp z)
        have sz : xs.length = items.size := by rw [← StrsAre.len_eq are, Array.length_toList]
        refine fill ((Walks.tuple hh3 _ l ne1 items).toS) s.heap.objs.size out1 xs sz (by rw [← sz]; exact few) (fun i v hv => SS.strs_at are i v (by rw [Array.getElem?_toList]; exact hv)) (items.size - 0) 0 _ (by omega) (Nat.zero_le _)
          ⟨⟨_, Heap.get?_push_size _ rfl, rfl, rfl⟩, (tup1.push _)⟩ ?start ?fin
        case start =>
          have at1 : ((s.heap.push (eset b)).push { cls := .type "tuple_iterator", data := .fields #[.ref l, .int 0 0] }).get? s.heap.objs.size = some (eset b) := Heap.get?_push_of_some _ at0
          exact PyProof.Rows.SetOf_congr ((PyProof.Rows.setObjOf_fresh (knd := PySem.strKind prog w) b).setOf at1 (by unfold scanBound; omega)) (fun _ => by simp) rfl
        case fin =>
          intro s' mv got
          obtain ⟨h', g', d', tk', os'⟩ := s'
          have eg : g' = s.gens := mv.gens
          have ed : d' = s.drawn := mv.drawn
          have eo : os' = s.os := mv.os
          subst eg
          subst ed
          subst eo
          show wpAny _ _ _ _ _ _
          refine wpAny_pure ?_
          show wpAny _ _ (ret Value.none) _ _ _
          refine wpAny_pure ⟨rfl, h', tk', rfl, got, fun c o hc e => ?_⟩
          refine mv.heap c o (fun z => ?_) (Heap.get?_push_of_some _ (Heap.get?_push_of_some _ e))
          rcases List.mem_cons.mp z with z | z
          · exact Nat.ne_of_lt hc z
          · have z2 := List.mem_singleton.mp z
            rw [Heap.size_push] at z2
            exact Nat.ne_of_lt (Nat.lt_succ_of_lt hc) z2
      · cases r2 with
        | error e => exact hr2
        | ok fl2 =>
          cases fl2 with
          | ret r =>
            obtain ⟨rfl, h', tk, rfl, got, keep⟩ := hr2
            repeat (any_goals (first | assumption | wp_step))
            exact h _ _ got keep
          | _ => exact hr2.elim
    | _ => exact hr.elim
end
section
variable {X : Cx}
def tLenSetT (K : PySem.W.Frag) (ta : TE) : TE := fun σ H Q => ta σ H fun x H1 => ∃ (l : Addr) (xs : List Str), x = .ref l ∧ SqT K H1 l (xs.map V.str) ∧ xs.length ≤ 1000 ∧ Q (.int (nd xs)) H1
theorem pe_lenSetT {a : Expr} {ta : TE} {p p2 q pos : Pos} (hc : X.calm = true) (hg : Gl X "len") (hm : X.mg "len" = none) (hg2 : Gl X "set") (hm2 : X.mg "set" = none) (ha : PE X a ta)
    (na : starEach [a] X.env = (false, eval a X.env) :: starEach [] X.env := by rfl) : PE X (.Call (.Name "len" p) [.Call (.Name "set" p2) [a] [] q] [] pos) (tLenSetT X.K ta) := by
  refine ⟨fun pins s σ H Q I h => ?_⟩
  refine Call_ (ld_blt I hg hm boot_len (PyProof.Rows.callWith_builtin1 (PyProof.Rows.args_cons ?_ rfl) rfl rfl))
  refine Call_ (ld_blt I hg2 hm2 boot_set (PyProof.Rows.callWith_type1 (PyProof.Rows.args_cons (thn (ha.run pins s σ H _ I h) fun v s1 ⟨x, H1, I1, r1, q1⟩ => PyProof.Rows.args_nil ?_) na) na rfl))
  obtain ⟨l, xs, rfl, sq, few, q1⟩ := q1
  cases r1
  obtain ⟨its, r, pl, hz⟩ := I1.tuple sq
  refine call_set_tup (I1.ok.hd hc) pl (by simpa using strsAre_of r) few fun h' tk got keep => PyProof.Rows.args_nil ?_
  obtain ⟨o, es, ep, t, ho, hex, hd, _, _, _, hf, hn⟩ := got
  have I2 : Inv X pins σ H1 { s1 with heap := h', toks := tk } := I1.kept fun b o e => keep b o (Heap.lt_size e) e
  have few2 := nd_le xs
  exact call_len_set ho hex hd hf (by rw [hn]; omega) ⟨.int (nd xs), H1, I2.tok _, ⟨_, by rw [hn]⟩, q1⟩
end
end Sx
set_option Elab.async false
set_option linter.all false
set_option maxRecDepth 100000
set_option maxHeartbeats 4000000
/-! enumerate(t), t a tuple -/
namespace Ex
open PySem PySem.Spec PyProof.Rows L2
open AutoSeq1 (wpAny_loadPart')
abbrev eIt (l : Addr) : Obj := { cls := .type "tuple_iterator", data := .fields #[.ref l, .int 0 0] }
abbrev eEn (i : Addr) : Obj := { cls := .type "enumerate", data := .fields #[.none, .bool false, .ref i, rawInt 0, .none, .none] }
theorem made (l : Addr) (items : Array Value) (n : Nat) (dct : Option Addr) (sl : Array (Option Value)) :
    Meets (Builtin.«enumerate.__new__» ⟨[.type "enumerate", .ref l], []⟩) (fun _ R s => s.heap.get? l = some { cls := .type "tuple", dict := dct, data := .seq items n, slots := sl } ∧
      R (.ok (.ret (.ref (s.heap.push (eIt l)).objs.size))) { s with heap := (s.heap.push (eIt l)).push (eEn s.heap.objs.size) }) :=
  .of_wp fun prog w A R s h => by
    obtain ⟨hp, g, d, tk, os⟩ := s
    obtain ⟨hl, h⟩ := h
    have hsub := sub_enumerate
    have tup : Heap.IsTuple (Shared.heap ⟨hp, g, d, tk, os⟩) l items := ⟨_, hl, rfl, n, rfl⟩
    wp_walk using wpAny_loadPart' hl
    refine wpAny_stack_any fun st => wpAny_pure ?_
    split
    · rename_i c _ _ _ _ _
      cases (c == Value.type "enumerate") <;> (wp_walk using wpAny_loadPart' hl, wpAny_pyIter_tuple tup; exact ⟨_, rfl, h⟩)
    · wp_walk using wpAny_loadPart' hl, wpAny_pyIter_tuple tup
      exact ⟨_, rfl, h⟩
section
variable {prog : Program} {w : World} {A : Around} {E : Value → Shared → Prop} {s : Shared}
theorem call_enumT {l : Addr} {items : Array Value} {Q : Value → Shared → Prop} (tup : s.heap.IsTuple l items)
    (h : ∀ h', IsEnum h' (s.heap.objs.size + 1) s.heap.objs.size 0 .none → h'.IsTupleIter s.heap.objs.size l 0 → (∀ b o, s.heap.get? b = some o → h'.get? b = some o) → Q (.ref (s.heap.objs.size + 1)) { s with heap := h' }) :
    wpAny (model prog w) A (call (.type "enumerate") [.ref l]) Q E s := by
  obtain ⟨⟨c, dct, dt, sl⟩, hl, hc, n, hd⟩ := tup
  obtain rfl : c = .type "tuple" := hc
  obtain rfl : dt = .seq items n := hd
  refine callType_new F.called_enumerate (by decide) (F.typeCall_enumerate_1 _) (F.newCall_enumerate_1 _) (fun obj => F.args_object_init_2 obj _) F.entry_enumerate_new (made l items n dct sl) ⟨hl, ?_⟩
  have sz : (s.heap.push (eIt l)).objs.size = s.heap.objs.size + 1 := Heap.size_push ..
  show _ ∧ _
  rw [sz]
  have en : IsEnum ((s.heap.push (eIt l)).push (eEn s.heap.objs.size)) (s.heap.objs.size + 1) s.heap.objs.size 0 .none := by
    have z := Heap.get?_push_size (s.heap.push (eIt l)) (o := eEn s.heap.objs.size) rfl
    rw [sz] at z
    exact z
  exact ⟨⟨_, en, rfl⟩, h _ en ⟨_, Heap.get?_push_of_some _ (Heap.get?_push_size _ rfl), rfl, rfl⟩ fun b o x => Heap.get?_push_of_some _ (Heap.get?_push_of_some _ x)⟩
end
/-- the tuple at a, each item in a new pair -/
def Itet (K : PySem.W.Frag) (a : Addr) : It :=
  ⟨fun i H => ∃ (xs : List V) (x : V), SqT K H a xs ∧ xs[i]? = some x, fun i H v H' => ∃ T x, v = .ref T ∧ H T = none ∧ H' = upd H T (.tup [.int (i : Nat), x]) ∧ ∀ xs, SqT K H a xs → xs[i]? = some x, fun i H => ∃ xs : List V, SqT K H a xs ∧ xs.length ≤ i⟩
theorem turn_enumT {P : Program} {w : World} {K : PySem.W.Frag} {elts : List Expr} {kk : Nat} {tpos : Pos} (a e it : Addr) :
    Turn P w K (.Tuple elts kk tpos) (Itet K a) [e, it] e (fun i h => (∃ old, IsEnum h e it ((i : Nat) : Int) old) ∧ h.IsTupleIter it a i ∧ e ≠ it ∧ e ≠ a ∧ a ≠ it) where
  mem := by simp
  obj := fun i h st b hb => by
    obtain ⟨⟨old, he⟩, ⟨o, ho, hc, hd⟩, _⟩ := st
    rcases List.mem_cons.mp hb with z | z
    · rw [z]
      exact ⟨_, he, fun v q => nomatch q⟩
    · rw [List.mem_singleton.mp z]
      exact ⟨o, ho, fun v q => by rw [hd] at q; cases q⟩
  keep := fun i h h' st k => let ⟨⟨old, he⟩, hi, hne⟩ := st; ⟨⟨old, k e (by simp) _ he⟩, hi.at fun o q => k it (by simp) o q, hne⟩
  item := by
    intro X hP hw hK hc i pins s σ H E I hf st hg
    subst hP hw hK
    obtain ⟨⟨old, he⟩, hit, hne, hea, hai⟩ := st
    obtain ⟨xs, x, hq, hx⟩ := hg
    obtain ⟨its, rv, p, hz⟩ := I.tuple hq
    obtain ⟨u, hu, ru⟩ := rv.get hx
    have lt1 : e < s.heap.objs.size := Heap.lt_size he
    have lt2 : it < s.heap.objs.size := by
      obtain ⟨_, q, _⟩ := hit
      exact Heap.lt_size q
    have hi : i < its.toArray.size := by
      rw [List.size_toArray, ← rv.length]
      exact (List.getElem?_eq_some_iff.mp hx).1
    refine wpAny_pyNext_enum_itemD (Draws.tuple (A := X.A.in1) (I.ok.hd hc) it a hai its.toArray) he ⟨hit, p⟩ hi hne (by simp [hne, hea]) fun u' h' tk hu' ho hst' hT hsz hk => ?_
    have eu : u' = u := by
      have z : its[i]? = some u' := by simpa using hu'
      rw [hu] at z
      exact (Option.some.inj z).symm
    subst eu
    refine ⟨_, rfl, wpAny_letOwnedTupleGo_enum (s := { s with heap := h', toks := tk + 1 }) ho fun h'' he' sb => ?_⟩
    have hT2 : h''.get? s.heap.objs.size = some { cls := .type "tuple", data := .seq #[.int i tk, u'] } := (sb.2 _ (Nat.ne_of_gt lt1)).trans hT
    have new : ObjOk X.prog X.w (upd H s.heap.objs.size (.tup [.int (i : Nat), x])) h'' s.heap.objs.size (.tup [.int (i : Nat), x]) :=
      ⟨by show 2 ≤ sizeLine; decide, [.int i tk, u'], .cons ⟨_, rfl⟩ (.cons ru .nil), ⟨_, hT2, rfl, _, rfl⟩⟩
    have I1 : Inv X pins σ (upd H s.heap.objs.size (.tup [.int (i : Nat), x])) { s with heap := h'', toks := tk + 1 } :=
      I.turnedNew (ch := [e, it]) (fun b ob hb q => (sb.2 b (fun z => hb (by simp [z]))).trans (hk b ob (fun z => hb (by simp [z])) (fun z => hb (by simp [z])) q)) hf (Nat.le_refl _) new
    refine ⟨.ref s.heap.objs.size, _, I1, rfl, ⟨_, x, rfl, I.hok.fresh (Nat.le_refl _), rfl, fun ys hy => by rw [I.tuple_inj hy hq]; exact hx⟩, ⟨⟨u', ?_⟩, hst'.1.at fun o q => (sb.2 it (Ne.symm hne)).trans q, hne, hea, hai⟩, fun b hb => ?_⟩
    · have e1 : ((i + 1 : Nat) : Int) = (i : Int) + 1 := by omega
      rw [e1]
      exact he'
    · have hb' : b < s.heap.objs.size := by
        rcases List.mem_cons.mp hb with z | z
        · rw [z]
          exact lt1
        · rw [List.mem_singleton.mp z]
          exact lt2
      rw [upd_ne (Nat.ne_of_lt hb')]
      exact (hf b hb).1
  done := by
    intro X hP hw hK hc i pins s σ H E I hf st hg
    subst hP hw hK
    obtain ⟨⟨old, he⟩, hit, hne, hea, hai⟩ := st
    obtain ⟨xs, hq, hx⟩ := hg
    obtain ⟨its, rv, p, hz⟩ := I.tuple hq
    obtain ⟨f0, f1, f2, f3, f4, f5⟩ := hf it (by simp)
    have hl := rv.length
    unfold pyNext
    refine wpAny_bind (wpAny_attempt (wpAny_callSpecial?_slot (name := Str.ofString "__next__") (⟨_, he, rfl⟩ : s.TypeIs (.ref e) "enumerate") F.slot_enumerate_next
      (wpAny_call_entry F.slot_enumerate_next (⟨_, he, rfl⟩ : s.TypeIs (.ref e) "enumerate") F.entry_enumerate_next ?_ (F.args_enumerate_next_1 _))))
    show wpAny _ _ (field (.ref e) 2 >>= _) _ _ _
    refine wpAny_bind (wpAny_field he rfl (x := .ref it) rfl (wpAny_bind ?_))
    refine wpAny_nextOf_tuple_end (I.ok.hd hc) hit p (by simp; omega) fun h' x he' hx' => ?_
    obtain ⟨o, ho, hcl⟩ := hx'
    exact wpAny_bind (wpAny_isInstance (T := "StopIteration") (b := true) ⟨o, ho, hcl⟩ isSubtype_stop (wpAny_pure ⟨rfl, I.turned (t' := s.toks) (fun b o hb q => he' b o hb q) f0 f1 f3 f4 f5⟩))
  self := fun A i s Q E st h => let ⟨⟨_, he⟩, _⟩ := st; wpAny_pyIter_enum he h
def iEnumT (K : PySem.W.Frag) (ta : TA) : TI := fun σ H R => ta σ H fun vs H1 => ∃ a xs, vs = [.ref a] ∧ SqT K H1 a xs ∧ R (Itet K a) H1
theorem pi_enumT {X : Cx} {e : Expr} {ta : TA} {p pos tpos : Pos} {elts : List Expr} {kk : Nat} (hg : Gl X "enumerate") (hm : X.mg "enumerate" = none) (ha : PA X [e] ta) (hs : starEach [e] X.env = [(false, eval e X.env)] := by rfl) :
    PI X (.Tuple elts kk tpos) (.Call (.Name "enumerate" p) [e] [] pos) (iEnumT X.K ta) := by
  refine ⟨fun pins s σ H R I h => ?_⟩
  refine Call_ (ld_blt I hg hm boot_enumerate (PyProof.Rows.callWith_type1 (thn (ha.run pos pins s σ H _ I h) fun us s1 ⟨vs, H1, I1, r1, q1⟩ => ?_) hs rfl))
  obtain ⟨a, xs, ex, hq, q⟩ := q1
  subst ex
  obtain ⟨u, rfl, r⟩ := vals1 r1
  obtain rfl : u = Value.ref a := r
  obtain ⟨its, rv, tup, hz⟩ := I1.tuple hq
  have lta : a < s1.heap.objs.size := by
    obtain ⟨o, ho, _⟩ := tup
    exact Heap.lt_size ho
  refine call_enumT tup fun h' he hit hk => wpAny_pyIter_enum he ?_
  have I2 : Inv X pins σ H1 { s1 with heap := h' } := I1.kept (t' := s1.toks) hk
  refine ⟨s1.heap.objs.size + 1, [s1.heap.objs.size + 1, s1.heap.objs.size], _, _, H1, rfl, I2, turn_enumT a (s1.heap.objs.size + 1) s1.heap.objs.size, ⟨⟨.none, he⟩, hit, Nat.succ_ne_self _, Nat.ne_of_gt (Nat.lt_succ_of_lt lta), Nat.ne_of_lt lta⟩, fun b hb => ?_, q⟩
  have hle : s1.heap.objs.size ≤ b := by
    rcases List.mem_cons.mp hb with z | z
    · rw [z]
      exact Nat.le_add_right _ _
    · rw [List.mem_singleton.mp z]
      exact Nat.le_refl _
  exact I1.fpOk hle (I1.hok.fresh hle)
/-- over a tuple that the body leaves as it is -/
theorem for_enumT {K : PySem.W.Frag} {a : Addr} {xs : List V} {g : TG} {tb : TS} {D : Ends} {σ : L2.St} {H : Hp} (Pv : Nat → L2.St → Hp → Prop) (h0 : Pv 0 σ H) (hl : ∀ i σ H, i ≤ xs.length → Pv i σ H → SqT K H a xs)
    (hs : ∀ i x σ H T, xs[i]? = some x → Pv i σ H → H T = none → g (.ref T) σ (upd H T (.tup [.int (i : Nat), x])) fun σ2 H2 => tb { D with nx := Pv (i + 1), ct := Pv (i + 1), bk := D.nx } σ2 H2) (hd : ∀ σ H, Pv xs.length σ H → D.nx σ H) :
    ∃ W : Nat → Nat → L2.St → Hp → Prop, (∃ m, W 0 m σ H) ∧ ∀ i m σ H, W i m σ H →
      ((Itet K a).stop i H ∧ D.nx σ H) ∨ ((Itet K a).go i H ∧ ∃ N : L2.St → Hp → Prop, (∀ σ' H', N σ' H' → ∃ m', m' < m ∧ W (i + 1) m' σ' H') ∧ ∀ x H', (Itet K a).yld i H x H' → g x σ H' fun σ2 H2 => tb { D with nx := N, ct := N, bk := D.nx } σ2 H2) := by
  refine ⟨fun i m σ H => m = xs.length - i ∧ i ≤ xs.length ∧ Pv i σ H, ⟨xs.length, by simp, Nat.zero_le _, h0⟩, ?_⟩
  rintro i m σ H ⟨rfl, hi, p⟩
  have q := hl i σ H hi p
  by_cases lt : i < xs.length
  · refine .inr ⟨⟨xs, xs[i], q, by simp [lt]⟩, Pv (i + 1), fun σ' H' p' => ⟨xs.length - (i + 1), by omega, rfl, lt, p'⟩, fun x H' y => ?_⟩
    obtain ⟨T, z, rfl, hT, rfl, y⟩ := y
    exact hs i z σ H T (y xs q) p hT
  · obtain rfl : i = xs.length := by omega
    exact .inl ⟨⟨xs, q, Nat.le_refl _⟩, hd σ H p⟩
end Ex
set_option Elab.async false
set_option linter.all false
set_option maxRecDepth 100000
set_option maxHeartbeats 4000000
/-! ## values as data: what a def reads and makes, without the heap -/
namespace Dv
open PySem PySem.Spec PyProof.Rows L2
/-! ### what stays when tables grow and new things are laid -/
structure Ky (H H' : Hp) : Prop where
  ob : ∀ a o, (∀ ps, o ≠ HO.tbl ps) → H a = some o → H' a = some o
  tb : ∀ a, GxR.TabG H a → GxR.TabG H' a
instance {H H' : Hp} : CoeFun (Ky H H') (fun _ => ∀ a o, (∀ ps, o ≠ HO.tbl ps) → H a = some o → H' a = some o) := ⟨Ky.ob⟩
theorem Ky.refl {H : Hp} : Ky H H := ⟨fun _ _ _ h => h, fun _ h => h⟩
theorem Ky.trans {H H1 H2 : Hp} (x : Ky H H1) (y : Ky H1 H2) : Ky H H2 := ⟨fun a o n h => y a o n (x a o n h), fun a h => y.tb a (x.tb a h)⟩
theorem Ky.of {H H1 : Hp} (x : Same H H1) : Ky H H1 := ⟨fun a o _ h => x a o h, fun a ⟨ps, h, r⟩ => ⟨ps, x _ _ h, r⟩⟩
theorem Ky.sqL {K : PySem.W.Frag} {H H' : Hp} {a : Addr} {xs : List V} (k : Ky H H') (h : SqL K H a xs) : SqL K H' a xs := by
  rcases h with (h | ⟨o, h⟩) | h
  · exact .inl (.inl (k a _ (fun _ z => nomatch z) h))
  · exact .inl (.inr ⟨o, k a _ (fun _ z => nomatch z) h⟩)
  · exact .inr h
theorem same_upd {H : Hp} {p : Addr} {o : HO} (h : H p = none) : Same H (upd H p o) := fun b x e => by
  rw [upd_ne (ne_of_none e h)]
  exact e
/-! ### tuples whose object has no dict -/
def Tz (K : PySem.W.Frag) (H : Hp) (a : Addr) (xs : List V) : Prop :=
  (∃ o, H a = some (.frz o (.tup xs)) ∧ o.dict = none) ∨
    ∃ (o : Obj) (its : Array Value) (n : Nat), K.lookup a = some o ∧ o.cls = .type "tuple" ∧ o.dict = none ∧ o.data = .seq its n ∧ its.size ≤ sizeLine ∧ Vals xs its.toList
theorem Tz.sq {K : PySem.W.Frag} {H : Hp} {a : Addr} {xs : List V} (h : Tz K H a xs) : SqT K H a xs := by
  rcases h with ⟨o, h, _⟩ | ⟨o, its, n, h1, h2, _, h3⟩
  · exact .inl (.inr ⟨o, h⟩)
  · exact .inr ⟨o, its, n, h1, h2, h3⟩
theorem Ky.tz {K : PySem.W.Frag} {H H' : Hp} {a : Addr} {xs : List V} (k : Ky H H') (h : Tz K H a xs) : Tz K H' a xs := by
  rcases h with ⟨o, h, d⟩ | h
  · exact .inl ⟨o, k a _ (fun _ z => nomatch z) h, d⟩
  · exact .inr h
theorem tz_new {K : PySem.W.Frag} {H : Hp} {p : Addr} {o : Obj} {xs : List V} (d : o.dict = none) : Tz K (upd H p (.frz o (.tup xs))) p xs := .inl ⟨o, upd_same, d⟩
/-! ### data -/
/-- a text: signs that are signs, not too many -/
def sOk (x : Str) : Bool := PyData.strOk x && decide (x.length ≤ 1000000)
theorem sOk.ok {x : Str} (h : sOk x = true) : PyData.strOk x = true := (Bool.and_eq_true_iff.mp h).1
theorem sOk.len {x : Str} (h : sOk x = true) : x.length ≤ 1000000 := of_decide_eq_true (Bool.and_eq_true_iff.mp h).2
theorem lim_line : 1000000 ≤ sizeLine := by decide
theorem sOk.line {x : Str} (h : sOk x = true) : x.length ≤ sizeLine := Nat.le_trans (sOk.len h) lim_line
mutual
inductive Df (K : PySem.W.Frag) (H : Hp) : V → PyData → Prop
  | non : Df K H .non .none
  | bl (b : Bool) : Df K H (.bl b) (.bool b)
  | int (i : Int) : Df K H (.int i) (.int i)
  | str (x : Str) : sOk x = true → Df K H (.str x) (.str x)
  | lst {a : Addr} {xs : List V} {ds : List PyData} : H a = some (.lst xs) → DfAll K H xs ds → Df K H (.ref a) (.list ds)
  | tup {a : Addr} {xs : List V} {ds : List PyData} : Tz K H a xs → DfAll K H xs ds → Df K H (.ref a) (.tuple ds)
inductive DfAll (K : PySem.W.Frag) (H : Hp) : List V → List PyData → Prop
  | nil : DfAll K H [] []
  | cons {v : V} {vs : List V} {d : PyData} {ds : List PyData} : Df K H v d → DfAll K H vs ds → DfAll K H (v :: vs) (d :: ds)
end
mutual
theorem Df.dp {K : PySem.W.Frag} {H : Hp} : ∀ (d : PyData) (v : V), Df K H v d → Dp K H v d
  | .none, _, h => by cases h; exact .non
  | .bool b, _, h => by cases h; exact .bl b
  | .int i, _, h => by cases h; exact .int i
  | .str z, _, h => by cases h; exact .str z
  | .list ds, _, h => by
    cases h with
    | lst a b => exact .lst (SqL.of a) (Df.dpAll ds _ b)
  | .tuple ds, _, h => by
    cases h with
    | tup a b => exact .tup a.sq (Df.dpAll ds _ b)
  | .dict _, _, h => by cases h
theorem Df.dpAll {K : PySem.W.Frag} {H : Hp} : ∀ (ds : List PyData) (vs : List V), DfAll K H vs ds → DpAll K H vs ds
  | [], _, h => by cases h; exact .nil
  | d :: ds, _, h => by
    cases h with
    | cons a b => exact .cons (Df.dp d _ a) (Df.dpAll ds _ b)
end
mutual
theorem Ky.df {K : PySem.W.Frag} {H H' : Hp} (k : Ky H H') : ∀ (d : PyData) (v : V), Df K H v d → Df K H' v d
  | .none, _, h => by cases h; exact .non
  | .bool b, _, h => by cases h; exact .bl b
  | .int i, _, h => by cases h; exact .int i
  | .str z, _, h => by
    cases h with
    | str _ k => exact .str z k
  | .list ds, _, h => by
    cases h with
    | lst a b => exact .lst (k _ _ (fun _ z => nomatch z) a) (Ky.dfAll k ds _ b)
  | .tuple ds, _, h => by
    cases h with
    | tup a b => exact .tup (k.tz a) (Ky.dfAll k ds _ b)
  | .dict _, _, h => by cases h
theorem Ky.dfAll {K : PySem.W.Frag} {H H' : Hp} (k : Ky H H') : ∀ (ds : List PyData) (vs : List V), DfAll K H vs ds → DfAll K H' vs ds
  | [], _, h => by cases h; exact .nil
  | d :: ds, _, h => by
    cases h with
    | cons a b => exact .cons (Ky.df k d _ a) (Ky.dfAll k ds _ b)
end
mutual
theorem Df.can {K : PySem.W.Frag} {H : Hp} : ∀ (d : PyData) (v : V), Df K H v d → d.canLay0 = true
  | .none, _, h => rfl
  | .bool b, _, h => rfl
  | .int i, _, h => rfl
  | .str z, _, h => by
    cases h with
    | str _ k =>
      simp only [PyData.canLay0]
      exact sOk.ok k
  | .list ds, _, h => by
    cases h with
    | lst a b =>
      simp only [PyData.canLay0]
      exact Df.canAll ds _ b
  | .tuple ds, _, h => by
    cases h with
    | tup a b =>
      simp only [PyData.canLay0]
      exact Df.canAll ds _ b
  | .dict _, _, h => by cases h
theorem Df.canAll {K : PySem.W.Frag} {H : Hp} : ∀ (ds : List PyData) (vs : List V), DfAll K H vs ds → PyData.canLayAll0 ds = true
  | [], _, h => rfl
  | d :: ds, _, h => by
    cases h with
    | cons a b => simp only [PyData.canLayAll0, Df.can d _ a, Df.canAll ds _ b, Bool.and_self]
end
theorem Df.shaped {K : PySem.W.Frag} {H : Hp} {v : V} {d : PyData} (h : Df K H v d) (l : d.depth ≤ 64) : SeqAt.shaped d = true := by
  unfold SeqAt.shaped
  rw [Df.can d v h, decide_eq_true l]
  rfl
section
variable {K : PySem.W.Frag} {H : Hp}
theorem Df.ky {v : V} {d : PyData} {H' : Hp} (h : Df K H v d) (k : Ky H H') : Df K H' v d := k.df d v h
theorem DfAll.ky {vs : List V} {ds : List PyData} {H' : Hp} (h : DfAll K H vs ds) (k : Ky H H') : DfAll K H' vs ds := k.dfAll ds vs h
theorem DfAll.len : ∀ {ds : List PyData} {vs : List V}, DfAll K H vs ds → vs.length = ds.length
  | [], _, h => by cases h; rfl
  | d :: ds, _, h => by
    cases h with
    | cons a b => rw [List.length_cons, List.length_cons, DfAll.len b]
theorem DfAll.get : ∀ {ds : List PyData} {vs : List V} {i : Nat} {v : V}, DfAll K H vs ds → vs[i]? = some v → ∃ d, ds[i]? = some d ∧ Df K H v d
  | [], _, i, v, h, e => by
    cases h
    simp at e
  | d :: ds, _, 0, v, h, e => by
    cases h with
    | cons a b =>
      simp at e
      subst e
      exact ⟨d, rfl, a⟩
  | d :: ds, _, i + 1, v, h, e => by
    cases h with
    | cons a b =>
      rw [List.getElem?_cons_succ] at e
      obtain ⟨d', h1, h2⟩ := DfAll.get b e
      exact ⟨d', by rw [List.getElem?_cons_succ]; exact h1, h2⟩
theorem DfAll.getD {ds : List PyData} {vs : List V} {i : Nat} {d : PyData} (h : DfAll K H vs ds) (e : ds[i]? = some d) : ∃ v, vs[i]? = some v ∧ Df K H v d := by
  have hi : i < vs.length := by
    have := (List.getElem?_eq_some_iff.mp e).1
    rw [h.len]
    exact this
  obtain ⟨d', e', r⟩ := h.get (List.getElem?_eq_getElem hi)
  rw [e] at e'
  cases e'
  exact ⟨_, List.getElem?_eq_getElem hi, r⟩
theorem DfAll.append : ∀ {ds es : List PyData} {vs us : List V}, DfAll K H vs ds → DfAll K H us es → DfAll K H (vs ++ us) (ds ++ es)
  | [], _, _, _, h, g => by cases h; exact g
  | d :: ds, _, _, _, h, g => by
    cases h with
    | cons a b => exact .cons a (DfAll.append b g)
theorem DfAll.drop : ∀ {ds : List PyData} {vs : List V} (n : Nat), DfAll K H vs ds → DfAll K H (vs.drop n) (ds.drop n)
  | _, _, 0, h => h
  | [], _, n + 1, h => by cases h; exact .nil
  | d :: ds, _, n + 1, h => by
    cases h with
    | cons a b => exact DfAll.drop n b
theorem DfAll.take : ∀ {ds : List PyData} {vs : List V} (n : Nat), DfAll K H vs ds → DfAll K H (vs.take n) (ds.take n)
  | _, _, 0, h => .nil
  | [], _, n + 1, h => by cases h; exact .nil
  | d :: ds, _, n + 1, h => by
    cases h with
    | cons a b => exact .cons a (DfAll.take n b)
theorem DfAll.rep {ds : List PyData} {vs : List V} (h : DfAll K H vs ds) : ∀ n : Nat, DfAll K H (List.replicate n vs).flatten (List.replicate n ds).flatten
  | 0 => .nil
  | n + 1 => by
    rw [List.replicate_succ, List.replicate_succ, List.flatten_cons, List.flatten_cons]
    exact h.append (DfAll.rep h n)
theorem DfAll.rev : ∀ {ds : List PyData} {vs : List V}, DfAll K H vs ds → DfAll K H vs.reverse ds.reverse
  | [], _, h => by cases h; exact .nil
  | d :: ds, _, h => by
    cases h with
    | cons a b =>
      rw [List.reverse_cons, List.reverse_cons]
      exact (DfAll.rev b).append (.cons a .nil)
theorem DfAll.set : ∀ {ds : List PyData} {vs : List V} {v : V} {d : PyData} (i : Nat), DfAll K H vs ds → Df K H v d → DfAll K H (vs.set i v) (ds.set i d)
  | [], _, _, _, _, h, _ => by cases h; exact .nil
  | _ :: _, _, _, _, 0, h, g => by
    cases h with
    | cons a b => exact .cons g b
  | _ :: _, _, _, _, i + 1, h, g => by
    cases h with
    | cons a b => exact .cons a (DfAll.set i b g)
theorem DfAll.ints : ∀ {ns : List Int} {vs : List V}, DfAll K H vs (ns.map PyData.int) → vs = ns.map V.int
  | [], _, h => by cases h; rfl
  | n :: r, _, h => by
    cases h with
    | cons a b =>
      cases a
      rw [DfAll.ints b]
      rfl
theorem DfAll.strs : ∀ {zs : List Str} {vs : List V}, DfAll K H vs (zs.map PyData.str) → vs = zs.map V.str
  | [], _, h => by cases h; rfl
  | n :: r, _, h => by
    cases h with
    | cons a b =>
      cases a
      rw [DfAll.strs b]
      rfl
theorem df_list {v : V} {ds : List PyData} (h : Df K H v (.list ds)) : ∃ a xs, v = .ref a ∧ H a = some (.lst xs) ∧ DfAll K H xs ds := by
  cases h with
  | lst a b => exact ⟨_, _, rfl, a, b⟩
theorem df_tup {v : V} {ds : List PyData} (h : Df K H v (.tuple ds)) : ∃ a xs, v = .ref a ∧ Tz K H a xs ∧ DfAll K H xs ds := by
  cases h with
  | tup a b => exact ⟨_, _, rfl, a, b⟩
theorem df_int {v : V} {i : Int} (h : Df K H v (.int i)) : v = .int i := by cases h; rfl
theorem df_str {v : V} {i : Str} (h : Df K H v (.str i)) : v = .str i := by cases h; rfl
theorem df_bl {v : V} {i : Bool} (h : Df K H v (.bool i)) : v = .bl i := by cases h; rfl
theorem df_non {v : V} (h : Df K H v .none) : v = .non := by cases h; rfl
end
/-! ### tuples are made without a dict, and known so -/
section
variable {X : Cx} {es : List Expr} {t : TA} {pos : Pos}
abbrev tupO (its : List Value) : Obj := { cls := .type "tuple", data := .seq its.toArray }
theorem new_tup {pins : List (Addr × Obj)} {s : Shared} {σ : L2.St} {H : Hp} {its : List Value} {xs : List V} (I : Inv X pins σ H s) (r : Vals xs its) (hz : xs.length ≤ sizeLine) :
    Inv X pins σ (upd H s.heap.objs.size (.frz (tupO its) (.tup xs))) { s with heap := s.heap.push (tupO its) } :=
  I.laid (t' := s.toks) (fun b u e => Heap.get?_push_of_some _ e) (Nat.le_refl _) (show ObjOk X.prog X.w _ _ _ (.frz _ (.tup xs)) from ⟨Heap.get?_push_size _ rfl, hz, its, r, IsTup.new _ _⟩)
def tTupF (t : TA) : TE := fun σ H Q => t σ H fun xs H1 => xs.length ≤ sizeLine ∧ ∀ p o, H1 p = none → o.dict = none → Q (.ref p) (upd H1 p (.frz o (.tup xs)))
theorem pe_tupF {x1} (h : PA X es t) : PE X (.Tuple es x1 pos) (tTupF t) := by
  refine ⟨fun pins s σ H Q I hq => ?_⟩
  refine wpAny_Tuple_spliced (thn (h.run pos pins s σ H _ I hq) fun us s1 ⟨xs, H1, I1, r, z, q⟩ => ⟨by rw [← r.length]; exact z, ?_⟩)
  exact ⟨.ref s1.heap.objs.size, _, new_tup I1 r z, rfl, q _ (tupO us) (I1.hok.fresh (Nat.le_refl _)) rfl⟩
/-- tuple(x) -/
theorem call_tupleF : CallR X (.type "tuple") (fun xs H Q => ∃ p ys, xs = [.ref p] ∧ ((SqL X.K H p ys ∧ ∀ l o, H l = none → o.dict = none → Q (.ref l) (upd H l (.frz o (.tup ys)))) ∨ (SqT X.K H p ys ∧ Q (.ref p) H))) := by
  intro pins s σ H xs us Q I r h
  obtain ⟨p, ys, rfl, h⟩ := h
  obtain ⟨u, rfl, rx⟩ := vals1 r
  cases rx
  rcases h with ⟨hq, q⟩ | ⟨hq, q⟩
  · obtain ⟨its, r', pl, hz⟩ := I.list hq
    have hlen := r'.length
    refine call_tuple_list pl.isList (fun h' kp => ?_) (by simp only [List.size_toArray] <;> omega)
    have I1 : Inv X pins σ H { s with heap := h' } := I.kept (t' := s.toks) kp
    exact ⟨.ref h'.objs.size, _, new_tup I1 r' hz, rfl, q _ (tupO its) (I1.hok.fresh (Nat.le_refl _)) rfl⟩
  · obtain ⟨its, r', pl, hz⟩ := I.tuple hq
    exact call_tuple_same pl ⟨.ref p, H, I, rfl, q⟩
/-- t[lo:hi] -/
def rSlF (K : PySem.W.Frag) : V → Option Int → Option Int → Hp → VK → Prop := fun x lo hi H Q => ∃ a xs, x = .ref a ∧ Tz K H a xs ∧ ∀ H' p, Same H H' → Tz K H' p (cutV xs lo hi) → Q (.ref p) H'
theorem cut_whole {xs : List V} {lo hi : Option Int} (w : HT.sIx xs.length 0 lo = 0 ∧ HT.sIx xs.length xs.length hi = xs.length) : cutV xs lo hi = xs := by
  unfold cutV
  rw [w.1, w.2, List.drop_zero, Nat.sub_zero, List.take_of_length_le (Nat.le_refl _)]
theorem sl_tupF : SlR X (rSlF X.K) := by
  intro pins s σ H x v vl vu lo hi sl Q I rx hs pl pu h
  obtain ⟨a, xs, rfl, hx, q⟩ := h
  by_cases hw : HT.sIx xs.length 0 lo = 0 ∧ HT.sIx xs.length xs.length hi = xs.length
  · exact sl_tupA pins s σ H _ v vl vu lo hi sl Q I rx hs pl pu ⟨a, xs, rfl, hx.sq, fun _ => q H a (Same.refl _) (by rw [cut_whole hw]; exact hx), fun z => absurd hw z⟩
  · cases rx
    obtain ⟨its, r, ht, hz⟩ := I.tuple hx.sq
    have hlen : its.toArray.size = xs.length := by rw [List.size_toArray]; exact r.length.symm
    refine ⟨"tuple", _, PyProof.Rows.slot_tuple_getitem.lookup, ht.typeIs, ?_⟩
    refine HT.getItem_tuple_cut ht hs pl pu (by rw [hlen]; exact hw) ?_ (by rw [hlen]; exact hz)
    rw [hlen]
    have r' := (r.drop (HT.sIx xs.length 0 lo)).take (HT.sIx xs.length xs.length hi - HT.sIx xs.length 0 lo)
    exact ⟨.ref s.heap.objs.size, _, new_tup I r' (Nat.le_trans (cutV_length xs lo hi) hz), rfl, q _ _ (same_upd (I.hok.fresh (Nat.le_refl _))) (tz_new (o := tupO _) rfl)⟩
/-- t + u -/
def rCatF (K : PySem.W.Frag) : R2 := fun x y H Q => ∃ a b xs ys, x = .ref a ∧ y = .ref b ∧ Tz K H a xs ∧ Tz K H b ys ∧ xs.length + ys.length ≤ sizeLine ∧ ∀ H' p, Same H H' → Tz K H' p (xs ++ ys) → Q (.ref p) H'
theorem op_catF : OpR X (binaryOp .Add) (rCatF X.K) := by
  intro pins s σ H x y v u Q I rx ry h
  obtain ⟨a, b, xs, ys, rfl, rfl, ha, hb, hz, q⟩ := h
  by_cases hx : xs = []
  · refine op_catA pins s σ H _ _ v u Q I rx ry ⟨a, b, xs, ys, rfl, rfl, ha.sq, hb.sq, hz, fun e => q H b (Same.refl _) (by rw [e]; exact hb), fun z => absurd hx z, fun z => absurd hx z⟩
  · cases rx
    cases ry
    obtain ⟨its, r1, p1, _⟩ := I.tuple ha.sq
    obtain ⟨its2, r2, p2, _⟩ := I.tuple hb.sq
    refine HT.cat_tup p1 p2 (fun z => hx (r1.nil_iff.mp z)) (fun z => ⟨.ref a, H, I, rfl, q H a (Same.refl _) (by rw [r2.nil_iff.mp z, List.append_nil]; exact ha)⟩) (fun z => ?_) (by rw [← r1.length, ← r2.length]; exact hz)
    exact ⟨.ref s.heap.objs.size, _, new_tup I (r1.append r2) (by rw [List.length_append]; exact hz), rfl, q _ _ (same_upd (I.hok.fresh (Nat.le_refl _))) (tz_new (o := tupO _) rfl)⟩
end
/-! ### t * k -/
section
variable {X : Cx}
theorem tuple_mul1 (l : Addr) (items : Array Value) (n : Nat) (dd : Option Addr) (sl : Array (Option Value)) (u : Tok) (x : Int) (c0 : (decide (x < -(2 ^ 63)) || decide (x ≥ 2 ^ 63)) = false) (c1 : (items.isEmpty || x == 1) = true) :
    Meets (Builtin.«tuple.__mul__» ⟨[.ref l, .int x u], []⟩) (fun _ R s => s.heap.get? l = some { cls := .type "tuple", dict := dd, data := .seq items n, slots := sl } ∧ R (.ok (.ret (Value.ref l))) s) :=
  .of_wp fun prog w A R s h => by
    obtain ⟨hp, g, d, tk, os⟩ := s
    obtain ⟨hl, h⟩ := h
    have f1 := AutoSeq1.idx_int
    wp_walk using wpAny_loadPart' hl
    repeat (first
      | (refine wpAny_ite_false (decide_eq_false (by rw [c0]; exact Bool.false_ne_true)) ?_; wp_walk using wpAny_loadPart' hl)
      | (refine wpAny_ite_true (decide_eq_true c1) ?_; wp_walk using wpAny_loadPart' hl))
    exact ⟨_, rfl, h⟩
theorem tuple_mul0 (l : Addr) (items : Array Value) (n : Nat) (dd : Option Addr) (sl : Array (Option Value)) (u : Tok) (x : Int) (c0 : (decide (x < -(2 ^ 63)) || decide (x ≥ 2 ^ 63)) = false) (c1 : (items.isEmpty || x == 1) = false) (c2 : (decide (x ≤ 0) || items.isEmpty) = true) :
    Meets (Builtin.«tuple.__mul__» ⟨[.ref l, .int x u], []⟩) (fun _ R s => s.heap.get? l = some { cls := .type "tuple", dict := dd, data := .seq items n, slots := sl } ∧ R (.ok (.ret (Value.ref s.heap.objs.size))) { s with heap := s.heap.push { cls := Value.type "tuple", data := Data.seq #[] }, toks := s.toks }) :=
  .of_wp fun prog w A R s h => by
    obtain ⟨hp, g, d, tk, os⟩ := s
    obtain ⟨hl, h⟩ := h
    have f1 := AutoSeq1.idx_int
    wp_walk using wpAny_loadPart' hl
    repeat (first
      | (refine wpAny_ite_false (decide_eq_false (by rw [c0]; exact Bool.false_ne_true)) ?_; wp_walk using wpAny_loadPart' hl)
      | (refine wpAny_ite_false (decide_eq_false (by rw [c1]; exact Bool.false_ne_true)) ?_; wp_walk using wpAny_loadPart' hl)
      | (refine wpAny_ite_true (decide_eq_true c2) ?_; wp_walk using wpAny_loadPart' hl))
    exact ⟨_, rfl, h⟩
end
end Dv
set_option Elab.async false
set_option linter.all false
set_option maxRecDepth 100000
set_option maxHeartbeats 4000000
namespace Dv
open PySem PySem.Spec PyProof.Rows L2
/-! ### a heap without some of its lists -/
def hidL (O : List Addr) (H : Hp) : Hp := fun a => if a ∈ O then none else H a
section
variable {O : List Addr} {H H' : Hp} {a : Addr} {o : HO}
theorem hidL_at (h : a ∉ O) : hidL O H a = H a := if_neg h
theorem hidL_in (h : a ∈ O) : hidL O H a = none := if_pos h
theorem hidL_off (e : hidL O H a = some o) : a ∉ O ∧ H a = some o := by
  unfold hidL at e
  split at e
  · cases e
  · rename_i h
    exact ⟨h, e⟩
theorem hidL_le : Same (hidL O H) H := fun a o e => (hidL_off e).2
theorem hidL_same (s : Same H H') : Same (hidL O H) (hidL O H') := fun a o e => by
  obtain ⟨h1, h2⟩ := hidL_off e
  rw [hidL_at h1]
  exact s a o h2
theorem hidL_upd (h : a ∈ O) : hidL O (upd H a o) = hidL O H := by
  funext b
  unfold hidL
  split
  · rfl
  · rename_i hb
    exact upd_ne fun z => hb (z ▸ h)
theorem hidL_new (h : a ∉ O) : hidL O (upd H a o) = upd (hidL O H) a o := by
  funext b
  by_cases e : b = a
  · subst e
    rw [hidL_at h, upd_same, upd_same]
  · rw [upd_ne e]
    unfold hidL
    split
    · rfl
    · exact upd_ne e
theorem hidL_own (h : a ∉ O) (n : H a = none) : hidL (a :: O) (upd H a o) = hidL O H := by
  funext b
  by_cases e : b = a
  · subst e
    rw [hidL_in List.mem_cons_self, hidL_at h, n]
  · unfold hidL
    simp only [List.mem_cons, e, false_or]
    split
    · rfl
    · exact upd_ne e
theorem hidL_nil : hidL [] H = H := by
  funext b
  exact if_neg List.not_mem_nil
theorem hidL_cons_le : Same (hidL (a :: O) H) (hidL O H) := fun b o e => by
  obtain ⟨h1, h2⟩ := hidL_off e
  rw [hidL_at fun z => h1 (List.mem_cons_of_mem _ z)]
  exact h2
theorem hidL_sub {O' : List Addr} (h : ∀ a ∈ O', a ∈ O) : Same (hidL O H) (hidL O' H) := fun b o e => by
  obtain ⟨h1, h2⟩ := hidL_off e
  rw [hidL_at fun z => h1 (h b z)]
  exact h2
end
/-- what was hidden is put back -/
def joinL (O : List Addr) (H H' : Hp) : Hp := fun a => if a ∈ O then H a else H' a
theorem joinL_in {O : List Addr} {H H' : Hp} {a : Addr} (h : a ∈ O) : joinL O H H' a = H a := if_pos h
theorem joinL_off {O : List Addr} {H H' : Hp} {a : Addr} (h : a ∉ O) : joinL O H H' a = H' a := if_neg h
theorem hid_join {O : List Addr} {H H' : Hp} (n : ∀ a ∈ O, H' a = none) : hidL O (joinL O H H') = H' := by
  funext a
  by_cases h : a ∈ O
  · rw [hidL_in h, n a h]
  · rw [hidL_at h, joinL_off h]
/-! ### a call sees nothing of what is hidden -/
section
variable {X : Cx} {pins : List (Addr × Obj)} {σ : L2.St} {H : Hp} {s : Shared} {O : List Addr}
theorem hok_hid {P : Program} {w : World} {h : Heap} (k : HOk P w H h) (hO : ∀ a ∈ O, ∃ xs, H a = some (.lst xs)) : HOk P w (hidL O H) h := fun b o e => by
  obtain ⟨h1, h2⟩ := hidL_off e
  refine (k b o h2).stay (fun _ _ _ g => g) (fun c g => ?_) fun c xs g => ?_
  · rw [hidL_at fun z => by
      obtain ⟨ys, g2⟩ := hO c z
      rw [g] at g2
      cases g2]
    exact g
  · rw [hidL_at fun z => by
      obtain ⟨ys, g2⟩ := hO c z
      rw [g] at g2
      cases g2]
    exact g
theorem inv_hid (I : Inv X pins σ H s) (hO : ∀ a ∈ O, ∃ xs, H a = some (.lst xs)) : Inv X pins σ (hidL O H) s := by
  have off : ∀ {b : Addr} {o : HO}, (∀ xs, o ≠ .lst xs) → H b = some o → hidL O H b = some o := fun {b o} n e => by
    rw [hidL_at fun z => by
      obtain ⟨ys, g2⟩ := hO b z
      rw [e] at g2
      exact n _ (Option.some.inj g2)]
    exact e
  have non : ∀ {b : Addr}, H b = none → hidL O H b = none := fun {b} e => by
    by_cases h : b ∈ O
    · exact hidL_in h
    · rw [hidL_at h]
      exact e
  refine ⟨I.ok, I.os, I.bare, ⟨I.base.keep, I.base.slot, fun b o e n hx => non (I.base.free b o e n hx), I.base.there, fun b xs e => off (fun _ z => nomatch z) (I.base.tups b xs e), fun b o u e => off (fun _ z => nomatch z) (I.base.frzs b o u e), fun b ps e => ?_⟩, I.loc, I.cell, non I.free, fun x c e => non (I.freeC x c e), fun p hp => ?_, hok_hid I.hok hO, I.len⟩
  · obtain ⟨more, h⟩ := I.base.tbls b ps e
    exact ⟨more, off (fun _ z => nomatch z) h⟩
  · obtain ⟨g1, g2, g3⟩ := I.pin p hp
    exact ⟨g1, non g2, g3⟩
variable {CX : CXT} {k : Nat} {f : Addr} {fd : FuncData} {ps : List Str} {sp : Sp} {dvs : List V} {ds : List Value} {E : XK}
theorem run_hid0 {Q : VK} {us : List Value} {vs : List V} (flen : ∀ vs H Q E, sp vs H Q E → vs.length = ps.length) (frun : ∀ (outer : List Env) (s : Shared) (H : Hp) (args : Args) (us : List Value) (vs : List V) (Q : VK) (E : XK), Env0 X.prog X.w X.K X.mg X.base X.A outer s H → BindsTo s fd args (ps.zip us) → Vals vs us → sp vs H Q E → codeAny (model X.prog X.w) X.A (.call (.ref f) args) (CR CX outer X.prog X.w H s Q E) s) (hb : Binds X.K fd ps ds) (hd : Vals dvs ds) (hx : PassesAt CX X σ E)
    (I : Inv X pins σ H s) (r : Vals vs us) (hO : ∀ a ∈ O, ∃ xs, H a = some (.lst xs)) (h : sp (vs ++ dvs) (hidL O H) (fun v H' => (∀ a ∈ O, H' a = none) → Q v (joinL O H H')) E) : wpAny (model X.prog X.w) X.A (call (.ref f) us) (EP X pins σ Q) X.xe s := by
  have I0 := inv_hid I hO
  have r2 : Vals (vs ++ dvs) (us ++ ds) := r.append hd
  have hl : (us ++ ds).length = ps.length := by rw [← r2.length]; exact flen _ _ _ _ h
  refine wpAny_call (codeAny_mono (frun X.stack s (hidL O H) ⟨us, []⟩ (us ++ ds) (vs ++ dvs) _ E I0.env0 (hb s us I0.kIn hl) r2 h) fun r s' hq => ?_)
  cases r with
  | error e => exact hx pins _ s e s' I0 hq
  | ok fl =>
    cases fl with
    | ret u =>
      obtain ⟨v, H', os, bare, un, hok, rv, q⟩ := hq
      have obj : ∀ a ∈ O, ∃ o, s.heap.get? a = some o ∧ s'.heap.get? a = some o := fun a ha => by
        obtain ⟨xs, e⟩ := hO a ha
        obtain ⟨_, its, n, _, g⟩ := I.hok a _ e
        exact ⟨_, g, un.keep a _ g (hidL_in ha) (fun z => by rw [I.stkFree a z] at e; cases e) List.not_mem_nil⟩
      have nO : ∀ a ∈ O, H' a = none := fun a ha => by
        obtain ⟨o, g, _⟩ := obj a ha
        exact un.free a o g (hidL_in ha) List.not_mem_nil
      have offO : ∀ {b : Addr} {o : HO}, H' b = some o → b ∉ O := fun {b o} e z => by
        rw [nO b z] at e
        cases e
      have back : ∀ {b : Addr} {o : HO}, (∀ xs, o ≠ .lst xs) → H b = some o → b ∉ O ∧ hidL O H b = some o := fun {b o} n e => by
        have hb : b ∉ O := fun z => by
          obtain ⟨ys, g2⟩ := hO b z
          rw [e] at g2
          exact n _ (Option.some.inj g2)
        exact ⟨hb, by rw [hidL_at hb]; exact e⟩
      have hid0 : ∀ {b : Addr}, H b = none → hidL O H b = none := fun {b} e => by
        by_cases z : b ∈ O
        · exact hidL_in z
        · rw [hidL_at z]
          exact e
      have unJ : Un (frs X.stack) [] H (joinL O H H') s.heap s'.heap := by
        refine ⟨fun b o e n => un.keep b o e (hid0 n), fun b o e n => un.slot b o e (hid0 n), fun b o e n hx => ?_, un.there, fun b xs e => ?_, fun b o u e => ?_, fun b qs e => ?_⟩
        · have hb : b ∉ O := fun z => by
            obtain ⟨ys, g2⟩ := hO b z
            rw [n] at g2
            cases g2
          rw [joinL_off hb]
          exact un.free b o e (hid0 n) hx
        · obtain ⟨hb, e2⟩ := back (o := .tup xs) (fun _ z => nomatch z) e
          rw [joinL_off hb]
          exact un.tups b xs e2
        · obtain ⟨hb, e2⟩ := back (o := .frz o u) (fun _ z => nomatch z) e
          rw [joinL_off hb]
          exact un.frzs b o u e2
        · obtain ⟨hb, e2⟩ := back (o := .tbl qs) (fun _ z => nomatch z) e
          rw [joinL_off hb]
          exact un.tbls b qs e2
      have hokJ : HOk X.prog X.w (joinL O H H') s'.heap := fun b o e => by
        by_cases hb : b ∈ O
        · rw [joinL_in hb] at e
          obtain ⟨xs, e2⟩ := hO b hb
          rw [e] at e2
          cases e2
          obtain ⟨z, its, n, rr, g⟩ := I.hok b _ e
          obtain ⟨o2, g2, g3⟩ := obj b hb
          rw [g] at g2
          cases g2
          exact ⟨z, its, n, rr, g3⟩
        · rw [joinL_off hb] at e
          refine (hok b o e).stay (fun _ _ _ g => g) (fun c g => ?_) fun c xs g => ?_
          · rw [joinL_off (offO g)]
            exact g
          · rw [joinL_off (offO g)]
            exact g
      exact I.after (H := H) ⟨v, joinL O H H', os, bare, unJ, hokJ, rv, q nO⟩
    | next => exact False.elim hq
    | brk => exact False.elim hq
    | cont => exact False.elim hq
theorem run_hid {Q : VK} {us : List Value} {vs : List V} (F : FnOk X.prog X.w X.K X.mg X.base CX k f fd ps sp) (hr : Room k X.A) (hb : Binds X.K fd ps ds) (hd : Vals dvs ds) (hx : PassesAt CX X σ E)
    (I : Inv X pins σ H s) (r : Vals vs us) (hO : ∀ a ∈ O, ∃ xs, H a = some (.lst xs)) (h : sp (vs ++ dvs) (hidL O H) (fun v H' => (∀ a ∈ O, H' a = none) → Q v (joinL O H H')) E) : wpAny (model X.prog X.w) X.A (call (.ref f) us) (EP X pins σ Q) X.xe s :=
  run_hid0 F.len (fun outer s H args us vs Q E => F.run X.A outer s H args us vs Q E hr) hb hd hx I r hO h
variable {x : Str} {p pos : Pos} {e : Expr} {es : List Expr} {t : TA}
/-- f(..), some lists hidden from it -/
def tCallH (sp : Sp) (dvs : List V) (E : XK) (t : TA) : TE := fun σ H Q => t σ H fun vs H1 => ∃ O : List Addr, (∀ a ∈ O, ∃ xs, H1 a = some (.lst xs)) ∧ sp (vs ++ dvs) (hidL O H1) (fun v H' => (∀ a ∈ O, H' a = none) → Q v (joinL O H1 H')) E
theorem pe_callH (F : FnOk X.prog X.w X.K X.mg X.base CX k f fd ps sp) (hr : Room k X.A) (hg : Gl X x) (hm : X.mg x = some (.ref f)) (hk : PySem.W.keepIn X.K (.ref f) = true) (hb : Binds X.K fd ps ds) (hd : Vals dvs ds) (hx : Passes CX X E)
    (ha : PA X (e :: es) t) (hdb : (x == ("__debug__" : Str)) = false := by decide) (he : starEach (e :: es) X.env = (false, eval e X.env) :: starEach es X.env := by rfl) (hpl : (backTo pos (starEach es X.env)).any (·.1) = false := by rfl) :
    PE X (.Call (.Name x p) (e :: es) [] pos) (tCallH sp dvs E t) := by
  refine ⟨fun pins s σ H Q I h => ?_⟩
  refine wpAny_Call_Name_kw (ld_glob I hg hm ?_ hdb)
  refine PySem.W.callWith_K (h₀ := X.base) I.ok.mod.kin hk (thn (ha.run pos pins s σ H _ I h) fun us s1 ⟨vs, H1, I1, r, O, hO, q⟩ => ⟨I1.kIn, ?_⟩) he hpl
  exact run_hid F hr hb hd (fun pins H s e s' => hx pins σ H s e s') I1 r hO q
/-- .. what may be raised told by the slots -/
def tCallHS (sp : Sp) (dvs : List V) (E : L2.St → XK) (t : TA) : TE := fun σ H Q => t σ H fun vs H1 => ∃ O : List Addr, (∀ a ∈ O, ∃ xs, H1 a = some (.lst xs)) ∧ sp (vs ++ dvs) (hidL O H1) (fun v H' => (∀ a ∈ O, H' a = none) → Q v (joinL O H1 H')) (E σ)
theorem pe_callHS {E : L2.St → XK} (F : FnOk X.prog X.w X.K X.mg X.base CX k f fd ps sp) (hr : Room k X.A) (hg : Gl X x) (hm : X.mg x = some (.ref f)) (hk : PySem.W.keepIn X.K (.ref f) = true) (hb : Binds X.K fd ps ds) (hd : Vals dvs ds) (hx : ∀ σ, PassesAt CX X σ (E σ))
    (ha : PA X (e :: es) t) (hdb : (x == ("__debug__" : Str)) = false := by decide) (he : starEach (e :: es) X.env = (false, eval e X.env) :: starEach es X.env := by rfl) (hpl : (backTo pos (starEach es X.env)).any (·.1) = false := by rfl) :
    PE X (.Call (.Name x p) (e :: es) [] pos) (tCallHS sp dvs E t) := by
  refine ⟨fun pins s σ H Q I h => ?_⟩
  refine wpAny_Call_Name_kw (ld_glob I hg hm ?_ hdb)
  refine PySem.W.callWith_K (h₀ := X.base) I.ok.mod.kin hk (thn (ha.run pos pins s σ H _ I h) fun us s1 ⟨vs, H1, I1, r, O, hO, q⟩ => ⟨I1.kIn, ?_⟩) he hpl
  exact run_hid F hr hb hd (hx σ) I1 r hO q
/-- .. a def of which is known what it does here -/
theorem pe_callHat (flen : ∀ vs H Q E, sp vs H Q E → vs.length = ps.length) (frun : ∀ (outer : List Env) (s : Shared) (H : Hp) (args : Args) (us : List Value) (vs : List V) (Q : VK) (E : XK), Env0 X.prog X.w X.K X.mg X.base X.A outer s H → BindsTo s fd args (ps.zip us) → Vals vs us → sp vs H Q E → codeAny (model X.prog X.w) X.A (.call (.ref f) args) (CR CX outer X.prog X.w H s Q E) s)
    (hg : Gl X x) (hm : X.mg x = some (.ref f)) (hk : PySem.W.keepIn X.K (.ref f) = true) (hb : Binds X.K fd ps ds) (hd : Vals dvs ds) (hx : Passes CX X E)
    (ha : PA X (e :: es) t) (hdb : (x == ("__debug__" : Str)) = false := by decide) (he : starEach (e :: es) X.env = (false, eval e X.env) :: starEach es X.env := by rfl) (hpl : (backTo pos (starEach es X.env)).any (·.1) = false := by rfl) :
    PE X (.Call (.Name x p) (e :: es) [] pos) (tCallH sp dvs E t) := by
  refine ⟨fun pins s σ H Q I h => ?_⟩
  refine wpAny_Call_Name_kw (ld_glob I hg hm ?_ hdb)
  refine PySem.W.callWith_K (h₀ := X.base) I.ok.mod.kin hk (thn (ha.run pos pins s σ H _ I h) fun us s1 ⟨vs, H1, I1, r, O, hO, q⟩ => ⟨I1.kIn, ?_⟩) he hpl
  exact run_hid0 flen frun hb hd (fun pins H s e s' => hx pins _ H s e s') I1 r hO q
end
end Dv
set_option Elab.async false
set_option linter.all false
set_option maxRecDepth 100000
set_option maxHeartbeats 4000000
namespace Cv
open PySem PySem.Spec PyProof.Rows L2
def topS (i : Nat) : Stmt := PySem.Challenge.pw_countveil_k65_price_numbers_told.main.body.getD i (.Pass ⟨0, 0, 0, 0⟩)
/-! ### the purse -/
def big : Int := (10 ^ 60) ^ 60
/-- a purse at p, its cells at c, at most T draws so far -/
def Pur (H : Hp) (p c : Addr) (T : Nat) : Prop := ∃ (cs : List Int) (k : Int), H p = some (.lst [.ref c, .int k]) ∧ H c = some (.lst (cs.map V.int)) ∧ 0 < cs.length ∧ cs.length ≤ 63 ∧ (∀ x ∈ cs, -big < x ∧ x < big) ∧ 0 ≤ k ∧ k ≤ T
/-- all but the purse is as it was -/
def Kp (p c : Addr) (H H' : Hp) : Prop := ∀ a o, a ≠ p → a ≠ c → H a = some o → H' a = some o
theorem Kp.refl {p c : Addr} {H : Hp} : Kp p c H H := fun _ _ _ _ h => h
theorem Kp.trans {p c : Addr} {H H1 H2 : Hp} (x : Kp p c H H1) (y : Kp p c H1 H2) : Kp p c H H2 := fun a o h1 h2 h => y a o h1 h2 (x a o h1 h2 h)
theorem Kp.of {p c : Addr} {H H1 : Hp} (x : Same H H1) : Kp p c H H1 := fun a o _ _ h => x a o h
theorem same_upd {H : Hp} {p : Addr} {o : HO} (h : H p = none) : Same H (upd H p o) := fun b x e => by
  rw [upd_ne (ne_of_none e h)]
  exact e
theorem Pur.ne {H : Hp} {p c : Addr} {T : Nat} (h : Pur H p c T) : p ≠ c := by
  obtain ⟨cs, k, hp, hc, h0, _⟩ := h
  refine ne_of hp hc fun e => ?_
  have e2 := HO.lst.inj e
  cases cs with
  | nil => simp at h0
  | cons x r => simp at e2
theorem Pur.same {H H' : Hp} {p c : Addr} {T : Nat} (h : Pur H p c T) (s : Same H H') : Pur H' p c T := by
  obtain ⟨cs, k, hp, hc, r⟩ := h
  exact ⟨cs, k, s _ _ hp, s _ _ hc, r⟩
theorem Pur.le {H : Hp} {p c : Addr} {T T' : Nat} (h : Pur H p c T) (l : T ≤ T') : Pur H p c T' := by
  obtain ⟨cs, k, hp, hc, h1, h2, h3, h4, h5⟩ := h
  exact ⟨cs, k, hp, hc, h1, h2, h3, h4, by omega⟩
theorem Pur.nep {H : Hp} {p c q : Addr} {T : Nat} (h : Pur H p c T) (n : H q = none) : q ≠ p ∧ q ≠ c := by
  obtain ⟨cs, k, hp, hc, _⟩ := h
  exact ⟨(ne_of_none hp n).symm, (ne_of_none hc n).symm⟩
/-- an object that isn't the purse's stays where the purse is changed -/
theorem Pur.upd {H : Hp} {p c q : Addr} {T : Nat} {o : HO} (h : Pur H p c T) (h1 : q ≠ p) (h2 : q ≠ c) : Pur (upd H q o) p c T := by
  obtain ⟨cs, k, hp, hc, r⟩ := h
  exact ⟨cs, k, by rw [upd_ne h1.symm]; exact hp, by rw [upd_ne h2.symm]; exact hc, r⟩
theorem Kp.upd {H H1 : Hp} {p c q : Addr} {o : HO} (h : Kp p c H H1) (n : H q = none) : Kp p c H (upd H1 q o) := fun a x h1 h2 e => by
  rw [upd_ne (ne_of_none e n)]
  exact h a x h1 h2 e
theorem seL {α : Type} {l : List α} {j : Nat} {x y : α} (h : y ∈ l.set j x) : y = x ∨ y ∈ l := by
  rcases List.mem_or_eq_of_mem_set h with h | h
  · exact .inr h
  · exact .inl h
/-! ### draw -/
theorem ixN_nat' {n j : Nat} (hj : j < n) : ixN n (j : Int) = some j := by
  unfold ixN
  rw [if_pos (by omega), if_pos (by omega)]
  simp
theorem modB {a b : Int} (h : 0 < b) (h2 : b ≤ 2147483647) : -(2 ^ 64) < a % b ∧ a % b < 2 ^ 64 := by
  have h3 := Int.emod_nonneg a (show b ≠ 0 by omega)
  have h4 := Int.emod_lt_of_pos a h
  omega
theorem c1 : (0 : Int) < 2147483629 := by decide
theorem c2 : (0 : Int) < 2147483647 := by decide
theorem c3 : (0 : Int) < 2147483587 := by decide
abbrev sDraw : Stmt := topS 37
theorem scD : FnScope ["_law_purse", "_law_out_of", "_law_cells", "_law_went", "_law_where", "_law_cell", "_law_figure"] ["_law_purse", "_law_out_of"] (defScope sDraw) := ⟨rfl, rfl, rfl, by decide +kernel, rfl, by decide +kernel, by decide +kernel⟩
def spDraw : Sp := fun vs H Q _ => ∃ (p c : Addr) (T : Nat) (n : Int), vs = [.ref p, .int n] ∧ Pur H p c T ∧ T ≤ 1000000000 ∧ 1 ≤ n ∧ n ≤ 1000000000 ∧
  ∀ H' r, 0 ≤ r → r < n → Pur H' p c (T + 1) → Kp p c H H' → Q (.int r) H'
section
variable {P : Program} {w : World} {K : PySem.W.Frag} {mg : Str → Option Value} {base : Heap}
theorem ok_draw {f : Addr} {fd : FuncData} {k : Nat} (F : Fun K "_law_draw" "_law_draw" sDraw f fd) (ml : mg "len" = none) : FnOk P w K mg base CX0 (k + 1) f fd ["_law_purse", "_law_out_of"] spDraw := by
  refine F.ok scD (fun vs H Q E h => ?_) (fun cdv A outer s H vs Q E hr h => ?_)
  · obtain ⟨p, c, T, n, rfl, _⟩ := h
    rfl
  · obtain ⟨p, c, T, n, rfl, hP, hT, n1, n2, q⟩ := h
    have hpc := hP.ne
    obtain ⟨cs, g, hp, hc, h0, h63, hb, g0, gT⟩ := hP
    refine ⟨_, pss_cons (ps_asg (pv 0) (pg_lst rfl (pgs_cons (pg_name (i := 2) scD.nd rfl (.inl rfl)) (pgs_cons (pg_name (i := 3) scD.nd rfl (.inl rfl)) pgs_nil))))
      (pss_cons (ps_set (i := 4) scD.nd rfl (.inl rfl) (pe_op op_mod (pv 3) (pe_callB call_len_seq (by rfl) ml PySem.boot_len (pa_cons (pv 2) pa_nil))))
      (pss_cons (ps_set (i := 5) scD.nd rfl (.inl rfl) (pe_ix ix_list (pv 2) (pv 4) (fun _ _ => rfl)))
      (pss_cons (ps_asg (pe_op op_add (pv 3) pe_int) (pg_sub (pv 0) pe_int set_list))
      (pss_cons (ps_if (pt_cmpR op_ge (pv 5) (pe_op op_pow pe_int pe_int) (nomark _))
        (pss_cons (ps_asg (pe_op op_fdivN (pv 5) (pv 1)) (pg_sub (pv 2) (pv 4) set_list)) (pss_one (ps_ret (pe_op op_mod (pv 5) (pv 1))))) pss_nil)
      (pss_cons (ps_set (i := 6) scD.nd rfl (.inl rfl) (pe_op op_mod (pe_op op_add (pe_op op_add (pe_op op_mul (pe_op op_mod (pv 5) pe_int) pe_int) (pe_op op_mul (pe_op op_mul (pv 3) (pv 3)) pe_int)) pe_int) pe_int))
      (pss_cons (ps_set (i := 6) scD.nd rfl (.inl rfl) (pe_op op_mod (pe_op op_mul (pv 6) (pv 6)) pe_int))
      (pss_cons (ps_set (i := 6) scD.nd rfl (.inl rfl) (pe_op op_mod (pe_op op_mul (pv 6) (pv 6)) pe_int))
      (pss_one (ps_ret (pe_op op_mod (pv 6) (pv 1))))))))))), ?_⟩
    -- the unpacked purse; where; the cell
    refine ⟨.ref p, rfl, p, _, rfl, SqL.of hp, rfl, _, _, rfl, _, _, rfl, rfl, ?_⟩
    have hl : (0 : Int) < (cs.map V.int).length := by
      rw [List.length_map]
      omega
    refine ⟨.int g, rfl, .ref c, rfl, c, _, rfl, .inl (SqL.of hc), g, _, rfl, rfl, hl, ?_⟩
    have j1 : 0 ≤ g % (cs.map V.int).length := Int.emod_nonneg _ (by omega)
    have j2 : g % (cs.map V.int).length < (cs.map V.int).length := Int.emod_lt_of_pos _ hl
    obtain ⟨j, ej⟩ : ∃ j : Nat, (j : Int) = g % (cs.map V.int).length := ⟨(g % (cs.map V.int).length).toNat, by omega⟩
    rw [← ej] at j1 j2
    have hj : j < cs.length := by
      rw [List.length_map] at j2
      omega
    have hcj : (cs.map V.int)[j]? = some (.int cs[j]) := by
      rw [List.getElem?_map, List.getElem?_eq_getElem hj]
      rfl
    have hx := hb cs[j] (List.getElem_mem hj)
    generalize cs[j] = x at hx hcj
    refine ⟨.ref c, rfl, _, rfl, c, _, _, .int x, rfl, rfl, SqL.of hc, (by rw [← ej]; exact atI_nat hcj), ?_⟩
    -- purse[1] = went + 1
    refine ⟨.int g, rfl, _, _, rfl, rfl, .ref p, rfl, p, _, _, 1, rfl, rfl, hp, rfl, ?_⟩
    have hc1 : (upd H p (.lst [.ref c, .int (g + 1)])) c = some (.lst (cs.map V.int)) := by
      rw [upd_ne hpc.symm]
      exact hc
    have K1 : Kp p c H (upd H p (.lst [.ref c, .int (g + 1)])) := fun a o h1 _ e => by
      rw [upd_ne h1]
      exact e
    have P1 : Pur (upd H p (.lst [.ref c, .int (g + 1)])) p c (T + 1) := ⟨cs, g + 1, upd_same, hc1, h0, h63, hb, by omega, by omega⟩
    -- cell >= 10 ** 18
    refine ⟨.int x, rfl, _, _, rfl, rfl, ⟨by decide, by decide, by decide⟩, _, _, rfl, rfl, _, rfl, ite2 (fun e => ?_) (fun e => ?_)⟩
    · refine ⟨.int x, rfl, .int n, rfl, _, _, rfl, rfl, ⟨by omega, by omega⟩, .ref c, rfl, _, rfl, c, _, _, j, rfl, rfl, hc1, ?_, ?_⟩
      · rw [← ej, List.length_map]
        exact ixN_nat' hj
      · refine ⟨.int x, rfl, .int n, rfl, _, _, rfl, rfl, by omega, ?_⟩
        refine q _ _ (Int.emod_nonneg _ (by omega)) (Int.emod_lt_of_pos _ (by omega)) ⟨cs.set j (x.fdiv n), g + 1, ?_, ?_, ?_, ?_, ?_, by omega, by omega⟩ ?_
        · rw [upd_ne hpc]
          exact upd_same
        · rw [upd_same, List.map_set]
        · rw [List.length_set]
          exact h0
        · rw [List.length_set]
          exact h63
        · intro y hy
          rcases seL hy with rfl | hy
          · rw [Int.fdiv_eq_ediv_of_nonneg _ (by omega)]
            have x0 : (10 : Int) ^ (18 : Int).toNat ≤ x := of_decide_eq_true e
            have x1 : (10 : Int) ^ (18 : Int).toNat = 1000000000000000000 := by decide
            have a1 : 0 ≤ x / n := Int.ediv_nonneg (by omega) (by omega)
            have a2 : x / n ≤ x := Int.ediv_le_self _ (by omega)
            exact ⟨by omega, by omega⟩
          · exact hb y hy
        · intro a o h1 h2 e
          rw [upd_ne h2]
          exact K1 a o h1 h2 e
    · -- num
      refine ⟨.int x, rfl, _, _, rfl, rfl, c1, _, _, rfl, rfl, .inr ⟨by decide, by decide⟩, .int g, rfl, .int g, rfl, _, _, rfl, rfl, .inl ⟨by omega, by omega⟩, _, _, rfl, rfl, .inr ⟨by decide, by decide⟩, _, _, rfl, rfl, _, _, rfl, rfl, _, _, rfl, rfl, c2, ?_⟩
      refine ⟨_, rfl, _, rfl, _, _, rfl, rfl, .inl (modB c2 (by decide)), _, _, rfl, rfl, c1, ?_⟩
      refine ⟨_, rfl, _, rfl, _, _, rfl, rfl, .inl (modB c1 (by decide)), _, _, rfl, rfl, c3, ?_⟩
      refine ⟨_, rfl, .int n, rfl, _, _, rfl, rfl, by omega, ?_⟩
      exact q _ _ (Int.emod_nonneg _ (by omega)) (Int.emod_lt_of_pos _ (by omega)) P1 K1
end
end Cv
set_option Elab.async false
set_option linter.all false
set_option maxRecDepth 100000
set_option maxHeartbeats 4000000
namespace Cv
open PySem PySem.Spec PyProof.Rows L2
theorem glen (sep : Str) (ws : List Str) : (Txt.join sep ws).length ≤ (ws.map (·.length)).sum + ws.length * sep.length := by
  show (Builtin.Str.glued sep ws).length ≤ _
  rw [StrLaws.glued_eq_join]
  exact StrLaws.join_length_le sep ws
theorem sum_le {m : Nat} : ∀ {ws : List Str}, (∀ z ∈ ws, z.length ≤ m) → (ws.map (·.length)).sum ≤ ws.length * m
  | [], _ => Nat.zero_le _
  | x :: r, h => by
    have h1 := h x List.mem_cons_self
    have h2 := sum_le (ws := r) fun z hz => h z (List.mem_cons_of_mem _ hz)
    rw [List.map_cons, List.sum_cons, List.length_cons, Nat.succ_mul]
    omega
theorem Kp.seq {K : PySem.W.Frag} {H H' : Hp} {p c a : Addr} {xs : List V} (e : Kp p c H H') (h1 : a ≠ p) (h2 : a ≠ c) (h : SqL K H a xs) : SqL K H' a xs := by
  rcases h with (h | ⟨o, h⟩) | h
  · exact .inl (.inl (e _ _ h1 h2 h))
  · exact .inl (.inr ⟨o, e _ _ h1 h2 h⟩)
  · exact .inr h
theorem op_powW {X : Cx} : OpR X (binaryOp .Pow) (rI (fun i j => 0 ≤ j ∧ (Builtin.Int.intBits i : Int) * j ≤ 2 ^ 27) fun i j => .int (i ^ j.toNat)) := opI fun _ _ _ _ _ _ _ hc q => pow_int hc.1 hc.2 q
theorem mem_at {α : Type} {xs : List α} {i : Int} (h0 : 0 ≤ i) (h1 : i < xs.length) : ∃ v, v ∈ xs ∧ atI xs i = some v := by
  obtain ⟨j, rfl⟩ : ∃ j : Nat, i = (j : Int) := ⟨i.toNat, by omega⟩
  have hj : j < xs.length := by omega
  exact ⟨xs[j], List.getElem_mem hj, atI_nat (List.getElem?_eq_getElem hj)⟩
theorem ints_shaped (cs : List Int) : SeqAt.shaped (.list (cs.map PyData.int)) = true := by
  have h1 : ∀ cs : List Int, PyData.canLayAll0 (cs.map PyData.int) = true := by
    intro cs
    induction cs with
    | nil => simp [PyData.canLayAll0]
    | cons x r ih => simp [PyData.canLayAll0, PyData.canLay0, ih]
  have h2 : ∀ cs : List Int, PyData.depthAll (cs.map PyData.int) ≤ 1 := by
    intro cs
    induction cs with
    | nil => simp [PyData.depthAll]
    | cons x r ih =>
      simp only [List.map_cons, PyData.depthAll, PyData.depth]
      omega
  show (PyData.canLay0 (.list (cs.map PyData.int)) && decide (PyData.depth (.list (cs.map PyData.int)) ≤ 64)) = true
  rw [Bool.and_eq_true]
  refine ⟨by simp only [PyData.canLay0]; exact h1 cs, decide_eq_true ?_⟩
  have h3 := h2 cs
  simp only [PyData.depth]
  omega
theorem ints_dp {K : PySem.W.Frag} {H : Hp} : ∀ cs : List Int, DpAll K H (cs.map V.int) (cs.map PyData.int)
  | [] => .nil
  | x :: r => .cons (.int x) (ints_dp r)
/-! ### the purse is made -/
def spPurse (K : PySem.W.Frag) : Sp := fun vs H Q _ => ∃ (a : Addr) (ns : List Int), vs = [.ref a] ∧ SqL K H a (ns.map V.int) ∧
  ∀ H' p c, Same H H' → H p = none → H c = none → Pur H' p c 0 → Q (.ref p) H'
theorem cut63 (xs : List V) : cutV xs none (some 63) = xs.take 63 := by
  unfold cutV
  rw [show HT.sIx xs.length 0 none = 0 from HT.sIx_none _ _, show HT.sIx xs.length xs.length (some 63) = min 63 xs.length from HT.sIx_nat xs.length xs.length 63, List.drop_zero, Nat.sub_zero]
  by_cases h : 63 ≤ xs.length
  · rw [Nat.min_eq_left h]
  · rw [Nat.min_eq_right (by omega), List.take_of_length_le (Nat.le_refl _), List.take_of_length_le (by omega)]
theorem big_pos : (0 : Int) < ((10 : Int) ^ (60 : Int).toNat) ^ (60 : Int).toNat := by decide +kernel
theorem big_eq : ((10 : Int) ^ (60 : Int).toNat) ^ (60 : Int).toNat = big := rfl
theorem eqv_nil : ∀ cs : List Int, PyData.eqv (.list (cs.map PyData.int)) (.list []) = decide (cs = [])
  | [] => by simp [PyData.eqv, PyData.eqvAll]
  | x :: r => by simp [PyData.eqv, PyData.eqvAll]
section
variable {P : Program} {w : World} {K : PySem.W.Frag} {mg : Str → Option Value} {base : Heap}
end
end Cv
set_option Elab.async false
set_option linter.all false
set_option maxRecDepth 100000
set_option maxHeartbeats 4000000
namespace Cv
open PySem PySem.Spec PyProof.Rows L2
/-! ### the purse is made -/
abbrev sPurse : Stmt := topS 36
theorem scP : FnScope ["_law_script", "_law_cells", "_law_j"] ["_law_script"] (defScope sPurse) := ⟨rfl, rfl, rfl, by decide +kernel, rfl, by decide +kernel, by decide +kernel⟩
theorem big20 : ((10 : Int) ^ (60 : Int).toNat) ^ (20 : Int).toNat < big := by decide +kernel
theorem big20p : (0 : Int) < ((10 : Int) ^ (60 : Int).toNat) ^ (20 : Int).toNat := by decide +kernel
theorem big18 : (10 : Int) ^ (18 : Int).toNat < big := by decide +kernel
section
variable {P : Program} {w : World} {K : PySem.W.Frag} {mg : Str → Option Value} {base : Heap}
theorem ok_purse {f : Addr} {fd : FuncData} {k : Nat} (F : Fun K "_law_purse_by" "_law_purse_by" sPurse f fd) (mr : mg "range" = none) (ml : mg "len" = none) (ma : mg "abs" = none) : FnOk P w K mg base CX0 (k + 1) f fd ["_law_script"] (spPurse K) := by
  refine F.ok scP (fun vs H Q E h => ?_) (fun cdv A outer s H vs Q E hr h => ?_)
  · obtain ⟨a, ns, rfl, _⟩ := h
    rfl
  · obtain ⟨a, ns, rfl, hS, q⟩ := h
    refine ⟨_, pss_cons (ps_set (i := 1) scP.nd rfl (.inl rfl) (pe_slice sl_list (pv 0) po_none (po_some pe_int)))
      (pss_cons (ps_for PassesOwn.never rfl (pi_range1 (by rfl) mr (pa_cons (pe_callB call_len_seq (by rfl) ml PySem.boot_len (pa_cons (pv 1) pa_nil)) pa_nil)) (pg_name (i := 2) scP.nd rfl (.inl rfl))
        (pss_one (ps_if (pt_cmpR op_ge (pe_callB call_abs (by rfl) ma (by decide +kernel) (pa_cons (pe_ix ix_list (pv 1) (pv 2) (fun _ _ => rfl)) pa_nil)) (pe_op op_pow pe_int pe_int) (nomark _))
          (pss_one (ps_asg (pe_op op_mod (pe_ix ix_list (pv 1) (pv 2) (fun _ _ => rfl)) (pe_op op_powW (pe_op op_pow pe_int pe_int) pe_int)) (pg_sub (pv 1) (pv 2) set_list))) pss_nil)))
      (pss_cons (ps_if (pt_cmpR (op_eqD hr.units) (pv 1) (pe_lst pa_nil) (nomark _)) (pss_one (ps_set (i := 1) scP.nd rfl (.inl rfl) (pe_lst (pa_cons pe_int pa_nil)))) pss_nil)
      (pss_one (ps_ret (pe_lst (pa_cons (pv 1) (pa_cons pe_int pa_nil))))))), ?_⟩
    refine ⟨.ref a, rfl, 63, rfl, a, _, rfl, hS, fun l nl => ?_⟩
    have f1 : (upd H l (.lst (cutV (ns.map V.int) none (some 63)))) l = some (.lst ((ns.take 63).map V.int)) := by
      rw [upd_same, cut63, List.map_take]
    have s1 : Same H (upd H l (.lst (cutV (ns.map V.int) none (some 63)))) := same_upd nl
    generalize upd H l (.lst (cutV (ns.map V.int) none (some 63))) = H1 at f1 s1 ⊢
    have lm : (ns.take 63).length ≤ 63 := by
      rw [List.length_take]
      omega
    generalize ns.take 63 = M at f1 lm
    refine ⟨.ref l, rfl, l, _, rfl, .inl (SqL.of f1), _, rfl, by rw [List.length_map]; omega, by rw [List.length_map]; omega, ?_⟩
    refine for_range (lo := 0) (n := (((M.map V.int).length : Nat) : Int).toNat) (fun i σ H' => ∃ y2 cs, σ = [some (.ref a), some (.ref l), y2] ∧ Same H H' ∧ H' l = some (.lst (cs.map V.int)) ∧ cs.length = M.length ∧ ∀ (j : Nat) (x : Int), j < i → cs[j]? = some x → -big < x ∧ x < big)
      ⟨none, M, rfl, s1, f1, rfl, fun j x hj _ => absurd hj (Nat.not_lt_zero j)⟩ (fun i σ H' hi h => ?_) (fun σ H' h => ?_)
    · rw [Int.toNat_natCast, List.length_map] at hi
      obtain ⟨y2, cs, rfl, g1, g2, g3, g4⟩ := h
      rw [Int.zero_add]
      have hi2 : i < cs.length := by omega
      have at1 : (cs.map V.int)[i]? = some (.int cs[i]) := by
        rw [List.getElem?_map, List.getElem?_eq_getElem hi2]
        rfl
      refine ⟨.ref l, rfl, .int (i : Nat), rfl, l, _, _, _, rfl, rfl, SqL.of g2, atI_nat at1, _, rfl, _, _, rfl, rfl, ⟨by decide, by decide, by decide⟩, _, _, rfl, rfl, _, rfl, ite2 (fun e => ?_) (fun e => ?_)⟩
      · refine ⟨.ref l, rfl, .int (i : Nat), rfl, l, _, _, _, rfl, rfl, SqL.of g2, atI_nat at1, _, _, rfl, rfl, ⟨by decide, by decide, by decide⟩, _, _, rfl, rfl, ⟨by decide, by decide +kernel⟩, _, _, rfl, rfl, big20p, .ref l, rfl, .int (i : Nat), rfl, l, _, _, i, rfl, rfl, g2, by rw [List.length_map]; exact ixN_nat' hi2, ?_⟩
        refine ⟨_, cs.set i (cs[i] % ((10 : Int) ^ (60 : Int).toNat) ^ (20 : Int).toNat), rfl, fun b o' e' => ?_, by rw [upd_same, List.map_set], by rw [List.length_set]; exact g3, fun j x hj ex => ?_⟩
        · rw [upd_ne (ne_of_none e' nl)]
          exact g1 _ _ e'
        · by_cases h2 : j = i
          · subst h2
            rw [List.getElem?_set_self hi2] at ex
            have ex2 := Option.some.inj ex
            have b1 := Int.emod_nonneg cs[j] (Int.ne_of_gt big20p)
            have b2 := Int.emod_lt_of_pos cs[j] big20p
            have b3 := big20
            rw [← ex2]
            exact ⟨by omega, by omega⟩
          · rw [List.getElem?_set_ne (fun z => h2 z.symm)] at ex
            exact g4 j x (by omega) ex
      · refine ⟨_, cs, rfl, g1, g2, g3, fun j x hj ex => ?_⟩
        by_cases h2 : j = i
        · subst h2
          rw [List.getElem?_eq_getElem hi2] at ex
          have ex2 := Option.some.inj ex
          have e2 : ¬ (10 : Int) ^ (18 : Int).toNat ≤ (if cs[j] < 0 then -cs[j] else cs[j]) := fun z => e (decide_eq_true z)
          have b3 := big18
          rw [← ex2]
          split at e2
          · exact ⟨by omega, by omega⟩
          · exact ⟨by omega, by omega⟩
        · exact g4 j x (by omega) ex
    · obtain ⟨y2, cs, rfl, g1, g2, g3, g4⟩ := h
      rw [Int.toNat_natCast, List.length_map] at g4
      have bm : ∀ x ∈ cs, -big < x ∧ x < big := fun x hx => by
        obtain ⟨j, hj, e⟩ := List.mem_iff_getElem.mp hx
        exact g4 j x (by omega) (by rw [List.getElem?_eq_getElem hj, e])
      have lm2 : cs.length ≤ 63 := by omega
      refine ⟨.ref l, rfl, Nat.zero_le _, fun e ne => ?_⟩
      have s2 : Same H' (upd H' e (.lst [])) := same_upd ne
      refine ⟨.list (cs.map PyData.int), .list [], .lst (SqL.of (s2 _ _ g2)) (ints_dp cs), .lst (SqL.of upd_same) .nil, ints_shaped cs, ints_shaped [], _, rfl, ite2 (fun z => ?_) (fun z => ?_)⟩
      · refine ⟨by decide, fun c nc => ?_⟩
        refine ⟨_, rfl, (by show 2 ≤ sizeLine; decide), fun p np => ?_⟩
        have s3 := (g1.trans s2).trans ((same_upd nc (o := .lst [.int 0])).trans (same_upd np (o := .lst [.ref c, .int 0])))
        refine q _ p c s3 (((g1.trans s2).trans (same_upd nc)).free np) ((g1.trans s2).free nc) ⟨[0], 0, upd_same, ?_, by decide, by decide, fun x hx => ?_, Int.le_refl _, Int.le_refl _⟩
        · rw [upd_ne (ne_of_none upd_same np)]
          exact upd_same
        · rw [List.mem_singleton.mp hx]
          have := big_pos
          rw [big_eq] at this
          exact ⟨by omega, this⟩
      · rw [eqv_nil] at z
        have z2 : cs ≠ [] := fun y => z (decide_eq_true y)
        refine ⟨_, rfl, (by show 2 ≤ sizeLine; decide), fun p np => ?_⟩
        have s3 := (g1.trans s2).trans (same_upd np (o := .lst [.ref l, .int 0]))
        exact q _ p l s3 ((g1.trans s2).free np) nl ⟨cs, 0, upd_same, (same_upd np) _ _ (s2 _ _ g2), List.length_pos_iff.mpr z2, lm2, bm, Int.le_refl _, Int.le_refl _⟩
end
end Cv
set_option Elab.async false
set_option linter.all false
set_option maxRecDepth 100000
set_option maxHeartbeats 4000000
namespace Cv
open PySem PySem.Spec PyProof.Rows L2
/-! ### an exception that is kept behind its except suite -/
/-- at a: an exception of the class C, its dict at d -/
def xob (a C : Addr) (d : Option Addr) : HO := .ext fun h => ∃ oe vs, h.get? a = some oe ∧ Zc (.ref C) d oe ∧ oe.data = .fields vs
theorem xob_ok {P : Program} {w : World} {H : Hp} {h : Heap} {a C : Addr} {d : Option Addr} {oe : Obj} {vs : Array Value} (e : h.get? a = some oe) (hz : Zc (.ref C) d oe) (hd : oe.data = .fields vs) : ObjOk P w H h a (xob a C d) :=
  ⟨⟨oe, vs, e, hz, hd⟩, ⟨oe, e⟩, fun h1 h2 ⟨o1, v1, g1, g2, g3⟩ k => ⟨o1, v1, k _ g1, g2, g3⟩⟩
theorem xob_at {P : Program} {w : World} {H : Hp} {h : Heap} {a C : Addr} {d : Option Addr} (hok : HOk P w H h) (e : H a = some (xob a C d)) : ∃ oe vs, h.get? a = some oe ∧ Zc (.ref C) d oe ∧ oe.data = .fields vs := by
  have x : ObjOk P w H h a (.ext fun h => ∃ oe vs, h.get? a = some oe ∧ Zc (.ref C) d oe ∧ oe.data = .fields vs) := hok a _ e
  exact x.1
section
variable {X : Cx} {pins : List (Addr × Obj)} {σ : L2.St} {H : Hp} {s : Shared}
theorem track {a C : Addr} {d : Option Addr} {oe : Obj} {vs : Array Value} (I : Inv X pins σ H s) (ha : s.heap.get? a = some oe) (hz : Zc (.ref C) d oe) (hd : oe.data = .fields vs) (na : H a = none) (nL : a ≠ X.env.locals)
    (nC : ∀ x c, X.env.cells.lookup x = some c → c ≠ a) (nP : ∀ p ∈ X.pn ++ pins, p.1 ≠ a) (n0 : X.s_0.heap.get? a = none) : Inv X pins σ (upd H a (xob a C d)) s := by
  have ne : ∀ {b : Addr} {o : HO}, H b = some o → b ≠ a := fun h => ne_of_none h na
  have up : ∀ {b : Addr}, b ≠ a → upd H a (xob a C d) b = H b := fun h => upd_ne h
  refine ⟨I.ok, I.os, I.bare, ?_, I.loc, I.cell, ?_, fun x c e => ?_, fun p hp => ?_, ?_, I.len⟩
  · refine ⟨I.base.keep, I.base.slot, fun b o e n hx => ?_, I.base.there, fun b xs e => ?_, fun b o u e => ?_, fun b ps e => ?_⟩
    · have hb : b ≠ a := fun z => by
        rw [z, n0] at e
        cases e
      rw [up hb]
      exact I.base.free b o e n hx
    · have h := I.base.tups b xs e
      rw [up (ne h)]
      exact h
    · have h := I.base.frzs b o u e
      rw [up (ne h)]
      exact h
    · obtain ⟨more, h⟩ := I.base.tbls b ps e
      exact ⟨more, by rw [up (ne h)]; exact h⟩
  · rw [up nL.symm]
    exact I.free
  · rw [up (nC x c e)]
    exact I.freeC x c e
  · obtain ⟨g1, g2, g3, g4, g5⟩ := I.pin p hp
    exact ⟨g1, by rw [up (nP p hp)]; exact g2, g3, g4, g5⟩
  · intro b o e
    by_cases hb : b = a
    · subst hb
      rw [upd_same] at e
      cases e
      exact xob_ok ha hz hd
    · rw [up hb] at e
      exact (I.hok b o e).stay (fun _ _ _ g => g) (fun c g => by rw [up (ne g)]; exact g) fun c xs g => by rw [up (ne g)]; exact g
end
/-- what the clause wishes: behind the suite the exception at a stays known -/
def wKeep (K : PySem.W.Frag) (c : Value) (i : Nat) (ts : Addr → Value → Option Addr → TS) (D : Ends) : WX := fun cls d σ H =>
  PySem.W.exmOne K cls c = some true ∧ ∃ C, cls = .ref C ∧ ∀ a, H a = none → ts a cls d { nx := fun σ2 H2 => D.nx (σ2.set i none) (upd H2 a (xob a C d)), rt := fun _ _ => False } (σ.set i (some (.ref a))) H
section
variable {X : Cx} {x n : Str} {c : Value} {i : Nat} {body su : List Stmt} {st0 : Stmt} {np pos pos2 : Pos} {tb : WX → TS} {ts : Addr → Value → Option Addr → TS}
theorem ps_try_keep (hst : X.stack = X.env :: X.outer) (hfr : X.env.frame = some X.env.locals) (hex : X.ex = []) (nd : X.N.Nodup) (hni : X.N[i]? = some n) (hnl : X.env.kindOf n = some .local) (hnm : Names X x c)
    (hbody : ∀ (W : WX) (pn : List (Addr × Obj)) (xe : Value → Shared → Prop), Takes (X.tr pn xe) W → PassesOwn (model X.prog X.w) X.A X.env xe → PSs (X.tr pn xe) body (tb W))
    (hsuite : ∀ (a : Addr) (oe : Obj) (cls : Value) (d : Option Addr) (pn : List (Addr × Obj)), Zc cls d oe → (∃ vs, oe.data = .fields vs) → PSs (X.suite a ((a, oe) :: pn)) (st0 :: su) (ts a cls d)) :
    PS X (.Try body [.ExceptHandler (some (.Name x np)) (some n) (st0 :: su) pos2] [] [] pos) (fun D σ H => tb (wKeep X.K c i ts D) D σ H) := by
  refine ⟨fun pins s σ H D I hread => ?_⟩
  have ok := I.ok
  have frA : X.A.frames = some (X.env :: X.outer) := ok.frames.trans (congrArg some hst)
  let after : Value → Shared → Prop := fun er sA =>
    wpAny (model X.prog X.w) X.A (noteFrame er X.env) (fun _ sB => wpAny (model X.prog X.w) X.A (setFlight er none) (fun _ sC => wpAny (model X.prog X.w) X.A
      (handleBy er X.env [.ExceptHandler (some (.Name x np)) (some n) (st0 :: su) pos2]) (SP X pins D) X.xe sC) X.xe sB) X.xe sA
  refine wpAny_Try_except (wpAny_mono ((hbody (wKeep X.K c i ts D) (X.pn ++ pins) after (fun u sE xx => ?_) PassesOwn.looking).run [] s σ H D (I.toTry after) hread) (fun fl sE hE => ?_) (fun _ _ z => z))
  · obtain ⟨a, B, sI, pins', σI, HI, cls, d, rfl, JT, grd, upT, skyT, na, osE, bareE, hmat, C, rfl, hnext⟩ := xx
    have J : Inv X pins σI HI sI := JT.ofTry ok
    show wpAny (model X.prog X.w) X.A (noteFrame (.ref a) X.env) _ _ _
    refine Sky.land (s := sE) (Z := Zc (.ref C) d) Zc.steady frA hfr (by rw [← hst]; exact skyT) fun hG flG upG => ?_
    have JG : Inv X pins σI HI { sE with heap := hG } := J.landed grd flG.1 (upT.trans upG) osE bareE
    have off : ∀ {hh : Heap}, HandSPX.FlyingZ B (X.env :: X.outer) a (Zc (.ref C) d) hh → a ∉ frs (X.env :: X.outer) := fun {hh} fl hm => by
      obtain ⟨o1, v1, g1, _, g3⟩ := fl.there
      obtain ⟨_, o2, g4, g5⟩ := fl.2.2.1.mem hm
      rw [g1] at g4
      cases g4
      exact g5 _ g3
    have offS : a ∉ frs X.stack := by rw [hst]; exact off flG
    have nL : a ≠ X.env.locals := fun z => off flG (List.mem_filterMap.mpr ⟨X.env, List.mem_cons_self, by rw [z]; exact hfr⟩)
    have nF : a ∉ X.fs := fun hm => by
      obtain ⟨e1, g1, g2⟩ := List.mem_filterMap.mp hm
      exact off flG (List.mem_filterMap.mpr ⟨e1, List.mem_cons_of_mem _ g1, g2⟩)
    have nB : ∀ {b : Addr} {o : Obj}, sI.heap.get? b = some o → b ≠ a := fun {b o} g z => by
      have g2 := grd b o g (by rw [z]; exact offS)
      rw [z, flG.2.1] at g2
      cases g2
    obtain ⟨oG, vG, gG, zG, dG⟩ := flG.there
    have SG := JG.suite gG dG na nL nF
    refine wpAny_handleBy_cons (codeAny_handlers_test ?_) (by intro z; cases z)
    have LT : PySem.W.Looks (model X.prog X.w) hG (typeOf (.ref a)) (.ref C) := fun A1 Q1 E1 s1 keep hq => wpAny_typeOf_ref (keep _ _ gG) (by rw [zG.1]; exact hq)
    have LM := PySem.W.exm_one (M := model X.prog X.w) JG.kIn LT hmat
    have load : ∀ {Q1 : Value → Shared → Prop} {E1 : Value → Shared → Prop}, Q1 c { sE with heap := hG } → wpAny (model X.prog X.w) (X.A.mark (some (.ref a))) (eval (.Name x np) X.env) Q1 E1 { sE with heap := hG } := fun {Q1 E1} hq => by
      obtain ⟨g1, g2, g3 | ⟨g3, g4, g5⟩⟩ := hnm
      · exact ld_glob (X := X.suite a ((a, oG) :: (X.pn ++ pins))) SG g1 g3 hq g2
      · exact ld_blt (X := X.suite a ((a, oG) :: (X.pn ++ pins))) SG g1 g3 g4 hq g5 g2
    refine load (LM.here (codeAny_handlers_suite_as (HandSPX.lands_againZ flG fun hK flK upK => ?_)))
    have JK : Inv X pins σI HI { sE with heap := hK } := J.landed grd flK.1 ((upT.trans upG).trans upK) osE bareE
    obtain ⟨oK, vK, gK, zK, dK⟩ := flK.there
    refine store_ok (X := X.suite a ((a, oK) :: (X.pn ++ pins))) (v := .ref a) (JK.suite gK dK na nL nF) nd hni (.inl hnl) rfl (fun sM SM => ?_) (.inr hnl)
    refine wpAny_mono ((hsuite a oK (.ref C) d (X.pn ++ pins) zK ⟨_, dK⟩).run [] sM _ HI _ SM (hnext a na)) (fun fl sN hN => ?_) (fun _ _ z => z.elim)
    cases fl with
    | next =>
      obtain ⟨σN, HN, SN, qN⟩ := hN
      obtain ⟨gN, nN, _⟩ := SN.pin (a, oK) (List.mem_append_left _ List.mem_cons_self)
      have JN : Inv X pins σN HN sN := SN.unsuite ok
      have TN : Inv X pins σN (upd HN a (xob a C d)) sN := track JN gN zK dK nN nL (fun y cc g => by
          obtain ⟨v, o, g1, _⟩ := J.cell y cc g
          exact nB g1) (fun p hp => nB (J.pin p hp).1) (by
          cases g0 : X.s_0.heap.get? a with
          | none => rfl
          | some o =>
            obtain ⟨o2, g2⟩ := J.base.there a o g0 (by rw [hex]; exact List.not_mem_nil)
            exact absurd rfl (nB g2))
      exact gone_ok TN nd hni hnl fun s9 J9 => ⟨_, _, J9, qN⟩
    | brk =>
      obtain ⟨_, _, _, z⟩ := hN
      exact z.elim
    | cont =>
      obtain ⟨_, _, _, z⟩ := hN
      exact z.elim
    | ret u =>
      obtain ⟨_, _, _, _, _, z⟩ := hN
      exact z.elim
  · cases fl with
    | next =>
      obtain ⟨σN, HN, JN, qN⟩ := hE
      exact wpAny_execs_nil ⟨σN, HN, JN.ofTry ok, qN⟩
    | brk =>
      obtain ⟨σN, HN, JN, qN⟩ := hE
      exact ⟨σN, HN, JN.ofTry ok, qN⟩
    | cont =>
      obtain ⟨σN, HN, JN, qN⟩ := hE
      exact ⟨σN, HN, JN.ofTry ok, qN⟩
    | ret u =>
      obtain ⟨vN, σN, HN, JN, rN, qN⟩ := hE
      exact ⟨vN, σN, HN, JN.ofTry ok, rN, qN⟩
end
end Cv
set_option Elab.async false
set_option linter.all false
set_option maxRecDepth 100000
set_option maxHeartbeats 4000000
namespace Cv
open PySem PySem.Spec PyProof.Rows L2
/-! ### the law's own def runs where nothing is being shown (no guards): its promise there alone -/
structure FnAt (A : Around) (P : Program) (w : World) (K : PySem.W.Frag) (mg : Str → Option Value) (base : Heap) (k : Nat) (f : Addr) (fd : FuncData) (ps : List Str) (sp : Sp) : Prop where
  run : ∀ (outer : List Env) (s : Shared) (H : Hp) (args : Args) (us : List Value) (vs : List V) (Q : VK) (E : XK), Room k A → Env0 P w K mg base A outer s H → BindsTo s fd args (ps.zip us) → Vals vs us → sp vs H Q E →
    codeAny (model P w) A (.call (.ref f) args) (CR CX0 outer P w H s Q E) s
section
variable {P : Program} {w : World} {K : PySem.W.Frag} {mg : Str → Option Value} {base : Heap} {A : Around}
theorem fn_at {x qual : Str} {st : Stmt} {f : Addr} {fd : FuncData} {N ps : List Str} {k : Nat} {sp : Sp} (F : Fun K x qual st f fd) (S : FnScope N ps (defScope st)) (hlen : ∀ vs H Q E, sp vs H Q E → vs.length = ps.length)
    (hwalk : ∀ (cdv : Value) (outer : List Env) (s : Shared) (H : Hp) (vs : List V) (Q : VK) (E : XK), Room k (A.deeper (envOfC qual (defScope st) s.heap.objs.size f cdv)) → sp vs H Q E →
      ∃ t, PSs (cxOf CX0 P w K mg base N qual (defScope st) f cdv A outer s H E).nox (defBody st) t ∧ t { nx := fun _ H2 => Q .non H2, rt := Q } (start N vs) H) : FnAt A P w K mg base (k + 1) f fd ps sp := by
  obtain ⟨oc, od, kV, doc, pm, an, cdv, ct, osl, rfl, lk, hcd⟩ := F.ex
  constructor
  intro outer s H args us vs Q E room env0 bind vals asked
  have whole : K.In s.heap := env0.mod.kin.keeps fun b o g => (env0.bs b o g).1
  have nolim : s.heap.NoLimit := env0.mod.nolimit.keeps fun b o g => (env0.bs b o g).1
  refine codeAny_call_function room.depth (whole _ _ lk) rfl S.co S.gen rfl (PySem.W.codeRec_of whole hcd) (bind _ _ _ _ (wpAny_newFunctionEnv_cells S.kind (fun y hy => ?_) fun env he s1 made => ?_))
  · rcases S.par y.1 (List.of_mem_zip (show (y.1, y.2) ∈ ps.zip us from hy)).1 with g | g
    · exact .inl g
    · exact .inr ⟨g, PySem.W.cellsFrom_some _ _ _ (.inl g)⟩
  · subst he
    obtain ⟨t, term, reads⟩ := hwalk cdv outer s H vs Q E (room.deeper _) asked
    have I0 : Inv (cxOf CX0 P w K mg base N qual (defScope st) f cdv A outer s H E) [] (start N vs) H s1 := inv_start S room.hd env0 (hlen _ _ _ _ asked) vals made
    refine ⟨nolim.keeps made.toInCall.keep, codeAny_func (wpAny_mono (term.nox.run [] s1 _ H _ I0 reads) (fun fl s2 hs => ?_) fun _ _ hs => hs)⟩
    cases fl with
    | ret u =>
      obtain ⟨v, _, H2, J, rv, g⟩ := hs
      exact ⟨v, H2, J.os, J.bare, J.base, J.hok, rv, g⟩
    | next =>
      obtain ⟨_, H2, J, g⟩ := hs
      exact ⟨.non, H2, J.os, J.bare, J.base, J.hok, rfl, g⟩
    | brk =>
      obtain ⟨_, _, _, g⟩ := hs
      exact g.elim
    | cont =>
      obtain ⟨_, _, _, g⟩ := hs
      exact g.elim
end
/-- nothing is tracked but the script, and the tables of the code objects cs -/
theorem law_atT {P : Program} {w : World} {K : PySem.W.Frag} {mg mb : Str → Option Value} {k : Nat} {fa a : Addr} {cs : List (Addr × Addr)} {fd : FuncData} {x : Str} {sp : Sp} {s1 : Shared} {vs : List Value} {ns : List Int}
    (kin : K.In s1.heap) (glob : s1.heap.Ns mainGlobals mg) (blt : s1.heap.Ns builtinsNs mb) (bltB : ∀ y : Str, y ≠ "__name__" → mb y = bootBuiltins y) (nolim : s1.heap.NoLimit) (hgen : s1.gens = #[])
    (tabs : ∀ q ∈ cs, PySem.W.CodeHd s1.heap q.1 q.2 ∧ s1.heap.get? q.2 = some { cls := .none, data := .fields #[] }) (offK : ∀ q ∈ cs, K.lookup q.2 = none)
    (bm : ∃ (m : Addr) (om : Obj), mg "__builtins__" = some (.ref m) ∧ m ≠ builtinsNs ∧ s1.heap.get? m = some om ∧ om.cls = .type "module" ∧ om.dict = some builtinsNs ∧ om.data = .plain)
    (ha : s1.heap.get? a = some { cls := .type "list", data := .seq vs.toArray }) (hin : IntsAre vs ns) (hlen : ns.length ≤ sizeLine) (room : Room k callerA)
    (F : ∀ base : Heap, K.In base → base.Ns mainGlobals mg → (∀ q ∈ cs, GxR.TabB base mg q.1 q.2) → FnAt callerA P w K mg base k fa fd [x] sp) (bind : ∀ (s : Shared) (u : Value), BindsTo s fd ⟨[u], []⟩ [(x, u)])
    (asked : ∀ H : Hp, (∀ q ∈ cs, H q.2 = some (.tbl #[])) → SqL K H a (ns.map V.int) → sp [.ref a] H (fun v _ => v = .bl true) fun _ _ _ => False) :
    codeAny (model P w) callerA (.call (.ref fa) ⟨[.ref a], []⟩) (fun r s2 => r = .ok (.ret (.bool true)) ∧ OldK s1.heap s2.heap ∧ s2.os = s1.os ∧ AllBare s2.gens) s1 := by
  have nvs : vs.length = ns.length := hin.length
  let ob : Obj := { cls := .type "list", data := .seq vs.toArray }
  have tabAt : ∀ {b : Addr}, b ∈ cs.map (·.2) → s1.heap.get? b = some { cls := .none, data := .fields #[] } ∧ K.lookup b = none := fun {b} g => by
    obtain ⟨q, hq, rfl⟩ := List.mem_map.mp g
    exact ⟨(tabs q hq).2, offK q hq⟩
  have na : a ∉ cs.map (·.2) := fun z => by
    have g := (tabAt z).1
    rw [ha] at g
    cases (show Data.seq vs.toArray _ = Data.fields #[] from congrArg Obj.data (Option.some.inj g))
  have main : ∀ H : Hp, (∀ q ∈ cs, H q.2 = some (.tbl #[])) → (∀ b, (H b = none ∧ b ∉ cs.map (·.2)) ∨ (b = a ∧ K.lookup a = none ∧ H b = some (.frz ob (.lst (ns.map V.int)))) ∨ (b ∈ cs.map (·.2) ∧ H b = some (.tbl #[]))) → SqL K H a (ns.map V.int) →
      codeAny (model P w) callerA (.call (.ref fa) ⟨[.ref a], []⟩) (fun r s2 => r = .ok (.ret (.bool true)) ∧ OldK s1.heap s2.heap ∧ s2.os = s1.os ∧ AllBare s2.gens) s1 := by
    intro H tb only seq
    have held : HOk P w H s1.heap := fun b o g => by
      rcases only b with ⟨z, _⟩ | ⟨rfl, _, z⟩ | ⟨m, z⟩
      · rw [z] at g
        cases g
      · rw [z] at g
        cases g
        exact ⟨ha, by rw [List.length_map]; exact hlen, vs, _, vals_ints hin, ha⟩
      · rw [z] at g
        cases g
        exact (tabAt m).1
    -- what is neither a list nor a table stays in sight
    have seen : ∀ {b : Addr} {o : Obj}, s1.heap.get? b = some o → (∀ us n, o.data ≠ .seq us n) → o.data ≠ .fields #[] → H b = none := fun {b o} g n1 n2 => by
      rcases only b with ⟨z, _⟩ | ⟨rfl, _, _⟩ | ⟨m, _⟩
      · exact z
      · rw [ha] at g
        cases g
        exact absurd rfl (n1 _ _)
      · rw [(tabAt m).1] at g
        cases g
        exact absurd rfl n2
    have put : ∀ {b : Addr} {m : Str → Option Value}, s1.heap.Ns b m → (hidT s1.heap H).Ns b m := fun {b m} h => by
      obtain ⟨o, es, ep, g, dat, more⟩ := h
      refine ⟨o, es, ep, hidT_get g (seen g (fun us n z => ?_) fun z => ?_), dat, more⟩ <;> (rw [dat] at z; cases z)
    have kinB : K.In (hidT s1.heap H) := fun b o g => hidT_get (kin b o g) (by
      rcases only b with ⟨z, _⟩ | ⟨rfl, z2, _⟩ | ⟨m, _⟩
      · exact z
      · rw [z2] at g
        cases g
      · rw [(tabAt m).2] at g
        cases g)
    have noLB : (hidT s1.heap H).NoLimit := by
      obtain ⟨mc, g1, g2⟩ := nolim
      exact ⟨mc, put g1, g2⟩
    have TB : ∀ q ∈ cs, GxR.TabB (hidT s1.heap H) mg q.1 q.2 := fun q hq => by
      obtain ⟨hd, emp⟩ := tabs q hq
      refine ⟨?_, ?_, fun z => ?_⟩
      · obtain ⟨o, us, file, tf, flags, tg, inF, text, tt, e1, r1, r2, r3, rest⟩ := hd
        refine ⟨o, us, file, tf, flags, tg, inF, text, tt, hidT_get e1 (seen e1 (fun us n z => ?_) fun z => ?_), r1, r2, r3, rest⟩
        · rw [r2] at z
          cases z
        · rw [r2] at z
          cases z
          simp at r3
      · obtain ⟨m, om, b1, b2, b3, b4, b5, b6⟩ := bm
        refine ⟨m, om, b1, b2, fun z => ?_, fun z => ?_, hidT_get b3 (seen b3 (fun us n z => ?_) fun z => ?_), b4, b5, b6⟩
        · obtain ⟨o, es, ep, g, dat, _⟩ := glob
          rw [z, g] at b3
          cases b3
          rw [dat] at b6
          cases b6
        · rw [z, emp] at b3
          cases b3
          cases b6
        · rw [b6] at z
          cases z
        · rw [b6] at z
          cases z
      · obtain ⟨o, es, ep, g, dat, _⟩ := glob
        rw [z, emp] at g
        cases g
        cases dat
    have env0 : Env0 P w K mg (hidT s1.heap H) callerA [] s1 H := by
      refine ⟨rfl, ⟨kinB, put glob, ⟨mb, put blt, bltB⟩, noLB⟩, fun b o g => of_hidT g, Nat.le_of_eq (hidT_size _ _), trivial, fun b hb => ?_, held, .of_eq hgen⟩
      exact absurd (show b ∈ ([] : List Addr) from hb) List.not_mem_nil
    refine codeAny_mono ((F _ kinB (put glob) TB).run [] s1 H ⟨[.ref a], []⟩ [.ref a] [.ref a] (fun v _ => v = .bl true) (fun _ _ _ => False) room env0 (bind s1 (.ref a)) (.cons rfl .nil) (asked H tb seq)) fun r s2 hr => ?_
    cases r with
    | error er => exact False.elim hr
    | ok fl =>
      cases fl with
      | ret u =>
        obtain ⟨v, H2, os2, bare2, un2, held2, rv, told⟩ := hr
        have told2 : v = .bl true := told
        subst told2
        obtain rfl : u = Value.bool true := rv
        have stays : ∀ b o, b ∉ cs.map (·.2) → s1.heap.get? b = some o → s2.heap.get? b = some o := fun b o nb g => by
          rcases only b with ⟨z, _⟩ | ⟨rfl, _, z⟩ | ⟨m, _⟩
          · exact un2.keep b o g z (fun hb => absurd (show b ∈ ([] : List Addr) from hb) List.not_mem_nil) List.not_mem_nil
          · have z2 := un2.frzs b ob _ z
            obtain ⟨g2, _⟩ := held2 b _ z2
            rw [ha] at g
            cases g
            exact g2
          · exact absurd m nb
        have grows : ∀ q ∈ cs, ∃ more : Array Value, s2.heap.get? q.2 = some { cls := .none, data := .fields more } := fun q hq => by
          obtain ⟨more, z⟩ := un2.tbls q.2 #[] (tb q hq)
          exact ⟨_, held2 q.2 _ z⟩
        refine ⟨rfl, ⟨fun b o g => ?_, fun b o g => ?_⟩, os2, bare2⟩
        · by_cases m : b ∈ cs.map (·.2)
          · obtain ⟨q, hq, rfl⟩ := List.mem_map.mp m
            obtain ⟨more, hm⟩ := grows q hq
            rw [(tabs q hq).2] at g
            cases g
            exact .inr (.inl ⟨((tabs q hq).1.tab (tabs q hq).2).isCodeTable, rfl, #[], more, rfl, by rw [Array.empty_append]; exact hm⟩)
          · exact .inl (stays b o m g)
        · by_cases m : b ∈ cs.map (·.2)
          · obtain ⟨q, hq, rfl⟩ := List.mem_map.mp m
            obtain ⟨more, hm⟩ := grows q hq
            exact ⟨_, hm⟩
          · exact ⟨o, stays b o m g⟩
      | next => exact False.elim hr
      | brk => exact False.elim hr
      | cont => exact False.elim hr
  have memq : ∀ q ∈ cs, q.2 ∈ cs.map (·.2) := fun q hq => List.mem_map.mpr ⟨q, hq, rfl⟩
  cases hk : K.lookup a with
  | none =>
    refine main (fun b => if b = a then some (.frz ob (.lst (ns.map V.int))) else if b ∈ cs.map (·.2) then some (.tbl #[]) else none) (fun q hq => ?_) (fun b => ?_) (.inl (.inr ⟨ob, if_pos rfl⟩))
    · have n1 : ¬ q.2 = a := fun z => na (by rw [← z]; exact memq q hq)
      exact (if_neg n1).trans (if_pos (memq q hq))
    · by_cases hb : b = a
      · exact .inr (.inl ⟨hb, hk, if_pos hb⟩)
      · by_cases hm : b ∈ cs.map (·.2)
        · exact .inr (.inr ⟨hm, (if_neg hb).trans (if_pos hm)⟩)
        · exact .inl ⟨(if_neg hb).trans (if_neg hm), hm⟩
  | some o =>
    have g := kin a o hk
    rw [ha] at g
    cases g
    refine main (fun b => if b ∈ cs.map (·.2) then some (.tbl #[]) else none) (fun q hq => if_pos (memq q hq)) (fun b => ?_) (.inr ⟨_, vs.toArray, _, hk, rfl, rfl, rfl, by rw [List.size_toArray, nvs]; exact hlen, by simpa using vals_ints hin⟩)
    by_cases hm : b ∈ cs.map (·.2)
    · exact .inr (.inr ⟨hm, if_pos hm⟩)
    · exact .inl ⟨if_neg hm, hm⟩
/-- the tables of the defs that the view holds -/
def TabsOf (q : Program) (K : PySem.W.Frag) (h : Heap) : Prop := ∀ (x : Str) (c T : Addr), ((PyProof.Rows.recsOf q).find? fun e => e.name == x).isSome = true → PySem.W.tabIn K x = some (c, T) → (PySem.W.CodeHd h c T ∧ h.get? T = some { cls := .none, data := .fields #[] }) ∧ K.lookup T = none
/-- what is known of the law's own def -/
def LawT (P : Program) (w : World) (K : PySem.W.Frag) (k n : Nat) (x : Str) (mg : Str → Option Value) (fa : Addr) (h : Heap) : Prop :=
  ∃ (fd : FuncData) (cs : List (Addr × Addr)) (sp : Sp), (∀ q ∈ cs, (PySem.W.CodeHd h q.1 q.2 ∧ h.get? q.2 = some { cls := .none, data := .fields #[] }) ∧ K.lookup q.2 = none) ∧ (∀ (s : Shared) (u : Value), BindsTo s fd ⟨[u], []⟩ [(x, u)]) ∧
    (∀ (H : Hp) (a : Addr) (ns : List Int), ns.length ≤ n → (∀ q ∈ cs, H q.2 = some (.tbl #[])) → SqL K H a (ns.map V.int) → sp [.ref a] H (fun v _ => v = .bl true) fun _ _ _ => False) ∧
    ∀ base : Heap, K.In base → base.Ns mainGlobals mg → (∀ q ∈ cs, GxR.TabB base mg q.1 q.2) → FnAt callerA P w K mg base k fa fd [x] sp
/-- the goal behind the head -/
theorem walk_atT {l : PySem.W.OpenLaw} {n k : Nat} {q : Program} {loose : List Str} {XP : (Str → Option Value) → Heap → Prop} {YP : World → Heap → Prop} {d : DefRec} {K : Params → PySem.W.Frag} {x : Str}
    (hn : l.most = some n) (hn2 : n ≤ sizeLine) (hdf : d.params.defaults = []) (room : Room k callerA) (hY : ∀ (w : World) (h : Heap), YP w h → (K w.params).In h) (hK : ∀ w : World, PySem.W.noTabs (K w.params) = true)
    (F : ∀ (w : World) (mg : Str → Option Value) (fa : Addr) (h : Heap), (K w.params).In h → h.Ns mainGlobals mg → mg d.name = some (.ref fa) → TabsOf q (K w.params) h → LawT l.prog w (K w.params) k n x mg fa h) :
    PySem.W.WalkO q loose XP YP l.row.toRowW d [] (fun f vs => PySem.call f vs) := by
  refine Att.attach_call hn hdf fun w s0 s1 mg mb fa o pm cd doc a vs ns G Y ho hd hcd hmg hobj hints hlen hgen => ?_
  have tabs : TabsOf q (K w.params) s1.heap := fun y c T e1 e2 => by
    obtain ⟨r, hr⟩ := Option.isSome_iff_exists.mp e1
    have z := PySem.W.tab_of G.T (hY w _ Y) hr e2
    refine ⟨z, ?_⟩
    cases e : (K w.params).lookup T with
    | none => rfl
    | some o =>
      have g := hY w _ Y T o e
      rw [z.2] at g
      cases g
      have h2 := List.all_eq_true.mp (hK w) _ (PySem.W.mem_of_lookupK e)
      exact absurd (show false = true from h2) Bool.false_ne_true
  obtain ⟨fd, cs, sp, t1, bind, asked, prom⟩ := F w mg fa _ (hY w _ Y) G.T.g hmg tabs
  exact law_atT (hY w _ Y) G.T.g G.T.b G.T.builtins G.T.nolimit hgen (fun q hq => (t1 q hq).1) (fun q hq => (t1 q hq).2) G.T.bmain hobj hints (Nat.le_trans hlen hn2) room prom bind fun H tb seq => asked H a ns hlen tb seq
section
variable {X : Cx}
theorem inst_at0 {pins : List (Addr × Obj)} {σ : L2.St} {H : Hp} {s : Shared} {a C : Addr} (I : Inv X pins σ H s) (ha : H a = some (xob a C none)) : ∃ oe : Obj, PySem.W.InstAt s.heap a oe C none := by
  obtain ⟨oe, vs, g, hz, dat⟩ := xob_at I.hok ha
  refine ⟨oe, ⟨g, hz.1, ?_, ?_⟩⟩
  · unfold PySem.W.notCls
    rw [dat] <;> rfl
  · rw [hz.2]
    exact trivial
def rIs0 (K : PySem.W.Frag) : List V → Hp → VK → Prop := fun xs H Q => ∃ (a C : Addr) (c : V) (u : Value) (b : Bool), xs = [.ref a, c] ∧ H a = some (xob a C none) ∧ ClsV c u ∧ ExcC K C ∧ PySem.W.kitOne K (.ref C) u = some b ∧ Q (.bl b) H
def rIs0T (K : PySem.W.Frag) : List V → Hp → VK → Prop := fun xs H Q => ∃ (a C tp : Addr) (cs : List V) (us : List Value) (b : Bool), xs = [.ref a, .ref tp] ∧ H a = some (xob a C none) ∧ H tp = some (.tup cs) ∧ Paired ClsV cs us ∧ ExcC K C ∧ PySem.W.kitAny K (.ref C) us = some b ∧ Q (.bl b) H
theorem kit_x {K : PySem.W.Frag} {a C : Addr} {oe : Obj} {od : Option Obj} (T : ExcC K C) : PySem.W.KitX K (.ref a) (.ref C) (fun h => PySem.W.InstAt h a oe C od) := by
  obtain ⟨cd, hc, _⟩ := PySem.W.any_some T.hd
  exact PySem.W.kitx_exc (by rw [hc]; rfl) T.hg T.hk T.hs T.ha T.hn T.ht T.hm
theorem call_is0 : CallR X (.builtin "isinstance") (rIs0 X.K) := by
  intro pins s σ H xs us Q I r h
  obtain ⟨a, C, c, u, b, rfl, ha, k, T, e, q⟩ := h
  obtain ⟨u1, u2, rfl, r1, r2⟩ := vals2 r
  obtain rfl := k.eq r2
  cases (show u1 = Value.ref a from r1)
  obtain ⟨oe, J⟩ := inst_at0 I ha
  exact PySem.W.kia_one (kit_x T) I.kIn J e (fun z => nomatch z) fun tk => ⟨.bl b, H, I.tok tk, rfl, q⟩
theorem call_is0T : CallR X (.builtin "isinstance") (rIs0T X.K) := by
  intro pins s σ H xs us Q I r h
  obtain ⟨a, C, tp, cs, ws, b, rfl, ha, hT, k, T, e, q⟩ := h
  obtain ⟨u1, u2, rfl, r1, r2⟩ := vals2 r
  cases (show u1 = Value.ref a from r1)
  cases (show u2 = Value.ref tp from r2)
  obtain ⟨oe, J⟩ := inst_at0 I ha
  obtain ⟨_, its, rv, ⟨oc, odd, dt, sl⟩, g1, g2, n, g3⟩ := (show ObjOk X.prog X.w H s.heap tp (.tup cs) from I.hok tp _ hT)
  obtain rfl := ClsV.all k rv
  simp only at g2 g3
  subst g2 g3
  exact PySem.W.kia_tup (kit_x T) I.kIn J g1 e (fun z => nomatch z) fun tk => ⟨.bl b, H, I.tok tk, rfl, q⟩
/-- repr(x), x a list or a tuple of data, where nothing is being shown -/
theorem call_reprD (hg : X.A.guards = some []) : CallR X (.builtin "repr") (fun xs H Q => ∃ (a : Addr) (d : PyData), xs = [.ref a] ∧ Dp X.K H (.ref a) d ∧ d.showable = true ∧ d.hasDict = false ∧ X.A.units + (d.depth + 1) < cLine ∧ d.shown.length ≤ sizeLine ∧ Q (.str d.shown) H) := by
  intro pins s σ H xs us Q I r h
  obtain ⟨a, d, rfl, hd, h1, h2, h3, h4, q⟩ := h
  obtain ⟨u, rfl, rx⟩ := vals1 r
  obtain rfl : u = Value.ref a := rx
  obtain ⟨as, rd⟩ := Dp.reads I d (.ref a) (.ref a) hd rfl
  exact repr_of_reads' rd h1 (PyData.noDict_hsm h2) hg h3 (fun _ _ g => g) (fun h' u tk hk => ⟨.str d.shown, H, I.kept (t' := tk) hk, ⟨u, rfl⟩, q⟩) h4
/-- what is never come to -/
theorem ps_nev {st : Stmt} : PS X st (fun _ _ _ => False) := ⟨fun _ _ _ _ _ _ h => h.elim⟩
theorem pss_nev {sts : List Stmt} : PSs X sts (fun _ _ _ => False) := ⟨fun _ _ _ _ _ _ h => h.elim⟩
theorem pe_nev {e : Expr} : PE X e (fun _ _ _ => False) := ⟨fun _ _ _ _ _ _ h => h.elim⟩
end
end Cv
set_option Elab.async false
set_option linter.all false
set_option maxRecDepth 100000
set_option maxHeartbeats 4000000
namespace Dv
open PySem PySem.Spec PyProof.Rows L2
/-! ### the purse: at most T draws so far -/
def big : Int := (10 ^ 60) ^ 60
abbrev Pur := Cv.Pur
theorem Pur.same {H H' : Hp} {p c : Addr} {T : Nat} (h : Pur H p c T) (s : Same H H') : Pur H' p c T := by
  obtain ⟨cs, k, hp, hc, r⟩ := h
  exact ⟨cs, k, s _ _ hp, s _ _ hc, r⟩
theorem Pur.le {H : Hp} {p c : Addr} {T T' : Nat} (h : Pur H p c T) (l : T ≤ T') : Pur H p c T' := by
  obtain ⟨cs, k, hp, hc, h1, h2, h3, h4, h5⟩ := h
  exact ⟨cs, k, hp, hc, h1, h2, h3, h4, by omega⟩
theorem Pur.of {H H' : Hp} {p c : Addr} {T : Nat} (h : Pur H p c T) (e1 : H' p = H p) (e2 : H' c = H c) : Pur H' p c T := by
  obtain ⟨cs, k, hp, hc, r⟩ := h
  exact ⟨cs, k, by rw [e1]; exact hp, by rw [e2]; exact hc, r⟩
/-! ### lists within lists (and tuples) that are all our own -/
inductive Tr where
  | d (x : PyData)
  | l (ts : List Tr)
  | t (ts : List Tr)
mutual
def Tr.dat : Tr → PyData
  | .d x => x
  | .l ts => .list (Tr.dats ts)
  | .t ts => .tuple (Tr.dats ts)
def Tr.dats : List Tr → List PyData
  | [] => []
  | u :: r => u.dat :: Tr.dats r
end
mutual
inductive TrOk (K : PySem.W.Frag) (Hv H : Hp) : V → Tr → List Addr → Prop
  | d {v : V} {x : PyData} : Df K Hv v x → TrOk K Hv H v (.d x) []
  | l {a : Addr} {vs : List V} {ts : List Tr} {as : List Addr} : H a = some (.lst vs) → TrAll K Hv H vs ts as → TrOk K Hv H (.ref a) (.l ts) (a :: as)
  | t {a : Addr} {vs : List V} {ts : List Tr} {as : List Addr} : Tz K Hv a vs → TrAll K Hv H vs ts as → TrOk K Hv H (.ref a) (.t ts) as
inductive TrAll (K : PySem.W.Frag) (Hv H : Hp) : List V → List Tr → List Addr → Prop
  | nil : TrAll K Hv H [] [] []
  | cons {v : V} {vs : List V} {t : Tr} {ts : List Tr} {as bs : List Addr} : TrOk K Hv H v t as → TrAll K Hv H vs ts bs → TrAll K Hv H (v :: vs) (t :: ts) (as ++ bs)
end
mutual
theorem TrOk.step {K : PySem.W.Frag} {Hv H Hv' H' : Hp} (k : Ky Hv Hv') : ∀ (t : Tr) (v : V) (as : List Addr), (∀ a ∈ as, H' a = H a) → TrOk K Hv H v t as → TrOk K Hv' H' v t as
  | .d x, v, as, _, h => by cases h with | d h => exact .d (h.ky k)
  | .l ts, v, as, s, h => by
    cases h with
    | l e h => exact .l (by rw [s _ List.mem_cons_self]; exact e) (TrAll.step k ts _ _ (fun a ha => s a (List.mem_cons_of_mem _ ha)) h)
  | .t ts, v, as, s, h => by
    cases h with
    | t e h => exact .t (k.tz e) (TrAll.step k ts _ _ s h)
theorem TrAll.step {K : PySem.W.Frag} {Hv H Hv' H' : Hp} (k : Ky Hv Hv') : ∀ (ts : List Tr) (vs : List V) (as : List Addr), (∀ a ∈ as, H' a = H a) → TrAll K Hv H vs ts as → TrAll K Hv' H' vs ts as
  | [], _, _, _, h => by cases h; exact .nil
  | t :: ts, _, _, s, h => by
    cases h with
    | cons a b => exact .cons (TrOk.step k t _ _ (fun x hx => s x (List.mem_append_left _ hx)) a) (TrAll.step k ts _ _ (fun x hx => s x (List.mem_append_right _ hx)) b)
end
mutual
/-- seen from a heap in which all of it is in sight, it is data -/
theorem TrOk.df {K : PySem.W.Frag} {Hv H Hw : Hp} (k : Ky Hv Hw) : ∀ (t : Tr) (v : V) (as : List Addr), (∀ a ∈ as, Hw a = H a) → TrOk K Hv H v t as → Df K Hw v t.dat
  | .d x, v, as, _, h => by
    cases h with
    | d h => exact h.ky k
  | .l ts, v, as, s, h => by
    cases h with
    | l e h =>
      rw [Tr.dat]
      exact .lst (by rw [s _ List.mem_cons_self]; exact e) (TrAll.df k ts _ _ (fun a ha => s a (List.mem_cons_of_mem _ ha)) h)
  | .t ts, v, as, s, h => by
    cases h with
    | t e h =>
      rw [Tr.dat]
      exact .tup (k.tz e) (TrAll.df k ts _ _ s h)
theorem TrAll.df {K : PySem.W.Frag} {Hv H Hw : Hp} (k : Ky Hv Hw) : ∀ (ts : List Tr) (vs : List V) (as : List Addr), (∀ a ∈ as, Hw a = H a) → TrAll K Hv H vs ts as → DfAll K Hw vs (Tr.dats ts)
  | [], _, _, _, h => by
    cases h
    rw [Tr.dats]
    exact .nil
  | t :: ts, _, _, s, h => by
    cases h with
    | cons a b =>
      rw [Tr.dats]
      exact .cons (TrOk.df k t _ _ (fun x hx => s x (List.mem_append_left _ hx)) a) (TrAll.df k ts _ _ (fun x hx => s x (List.mem_append_right _ hx)) b)
end
/-! ### what a slot holds, as data -/
inductive DV where
  | no
  | d (x : PyData)
  | own (xs : List PyData)
  | pur
  | exc (C : Addr)
  | tr (t : Tr)
inductive DRt where
  | d (x : PyData)
  | own (xs : List PyData)
def DRt.dat : DRt → PyData
  | .d x => x
  | .own xs => .list xs
structure DX where
  C : Addr
  T : Nat
structure Wst where
  H0 : Hp
  O : List Addr
  adr : Nat → Addr
  tag : Addr → Nat
  p : Addr
  c : Addr
  hp : Bool
def Wst.off (w : Wst) (a : Addr) : Prop := w.hp = true → a ≠ w.p ∧ a ≠ w.c
def pcL (hp : Bool) (p c : Addr) : List Addr := if hp = true then [p, c] else []
abbrev Wst.pc (w : Wst) : List Addr := pcL w.hp w.p w.c
/-- what a def's proof has around: the tables of its law, what is wished of an error -/
structure DC where
  tb : List Addr
  E : XK
  Eh : DX → Prop
abbrev DC.no (tb : List Addr) : DC := ⟨tb, fun _ _ _ => False, fun _ => False⟩
structure Wd (D : DC) (w : Wst) (T : Nat) (H : Hp) : Prop where
  ky : Ky w.H0 (hidL w.O H)
  tab : ∀ P ∈ D.tb, GxR.TabG (hidL w.O H) P
  lst : ∀ a ∈ w.O, ∃ xs, H a = some (.lst xs)
  pur : w.hp = true → Pur H w.p w.c T ∧ w.p ∈ w.O ∧ w.c ∈ w.O
  exl : ∀ (ex : DX) (H' : Hp), Ky w.H0 (hidL w.pc H') → (w.hp = true → Pur H' w.p w.c ex.T) → D.Eh ex → D.E (.ref ex.C) none H'
structure Stp (w : Wst) (T : Nat) (H : Hp) (T' : Nat) (H' : Hp) : Prop where
  ky : Ky (hidL w.O H) (hidL w.O H')
  same : ∀ a ∈ w.O, w.off a → H' a = H a
  pur : w.hp = true → Pur H' w.p w.c T'
section
variable {K : PySem.W.Frag} {D : DC} {w : Wst} {T T1 T2 : Nat} {H H1 H2 : Hp}
theorem Stp.trans (x : Stp w T H T1 H1) (y : Stp w T1 H1 T2 H2) : Stp w T H T2 H2 := ⟨x.ky.trans y.ky, fun a ha ho => (y.same a ha ho).trans (x.same a ha ho), y.pur⟩
theorem Wd.refl (d : Wd D w T H) : Stp w T H T H := ⟨Ky.refl, fun _ _ _ => rfl, fun h => (d.pur h).1⟩
theorem Wd.stp (d : Wd D w T H) (s : Same H H1) : Stp w T H T H1 := ⟨Ky.of (hidL_same s), fun a ha _ => by
  obtain ⟨xs, e⟩ := d.lst a ha
  rw [e, s _ _ e], fun h => (d.pur h).1.same s⟩
theorem Wd.step (d : Wd D w T H) (s : Stp w T H T1 H1) : Wd D w T1 H1 := by
  refine ⟨d.ky.trans s.ky, fun P hP => s.ky.tb P (d.tab P hP), fun a ha => ?_, fun h => ⟨s.pur h, (d.pur h).2⟩, d.exl⟩
  by_cases h : w.off a
  · obtain ⟨xs, e⟩ := d.lst a ha
    exact ⟨xs, by rw [s.same a ha h]; exact e⟩
  · by_cases hh : w.hp = true
    · obtain ⟨cs, k, e1, e2, _⟩ := s.pur hh
      by_cases h1 : a = w.p
      · rw [h1]
        exact ⟨_, e1⟩
      · by_cases h2 : a = w.c
        · rw [h2]
          exact ⟨_, e2⟩
        · exact absurd (fun _ => ⟨h1, h2⟩) h
    · exact absurd (fun z => absurd z hh) h
theorem Wd.new (d : Wd D w T H) {q : Addr} (n : H q = none) : q ∉ w.O := fun z => by
  obtain ⟨xs, e⟩ := d.lst q z
  rw [n] at e
  cases e
end
def SlOk (K : PySem.W.Frag) (w : Wst) (H : Hp) (i : Nat) (sv : Option (Option V)) : DV → Prop
  | .no => True
  | .d x => ∃ v, sv = some (some v) ∧ Df K (hidL w.O H) v x
  | .own xs => sv = some (some (.ref (w.adr i))) ∧ w.adr i ∈ w.O ∧ w.off (w.adr i) ∧ ∃ vs, H (w.adr i) = some (.lst vs) ∧ DfAll K (hidL w.O H) vs xs
  | .pur => w.hp = true ∧ sv = some (some (.ref w.p))
  | .exc C => ∃ a, sv = some (some (.ref a)) ∧ hidL w.O H a = some (Cv.xob a C none)
  | .tr t => ∃ v as, sv = some (some v) ∧ TrOk K (hidL w.O H) H v t as ∧ as.Nodup ∧ ∀ a ∈ as, a ∈ w.O ∧ w.off a ∧ w.tag a = i + 1
abbrev Env' := List DV
structure Rp (K : PySem.W.Frag) (D : DC) (w : Wst) (E : Env') (T : Nat) (σ : L2.St) (H : Hp) : Prop where
  wd : Wd D w T H
  len : σ.length = E.length
  sl : ∀ i x, E[i]? = some x → SlOk K w H i σ[i]? x
  inj : ∀ i j xs ys, i ≠ j → E[i]? = some (.own xs) → E[j]? = some (.own ys) → w.adr i ≠ w.adr j
  tg : ∀ j xs, E[j]? = some (.own xs) → w.tag (w.adr j) = 0
/-- a thing that may be looked into: data, or one of our own lists -/
def Dk (K : PySem.W.Frag) (w : Wst) (H : Hp) (v : V) (x : PyData) : Prop := Df K (hidL w.O H) v x ∨ ∃ l vs ds, v = .ref l ∧ l ∈ w.O ∧ w.off l ∧ H l = some (.lst vs) ∧ DfAll K (hidL w.O H) vs ds ∧ x = .list ds
section
variable {K : PySem.W.Frag} {D : DC} {w : Wst} {E : Env'} {σ : L2.St} {T T1 T2 : Nat} {H H1 H2 : Hp}
theorem Rp.step (r : Rp K D w E T σ H) (s : Stp w T H T1 H1) : Rp K D w E T1 σ H1 := by
  refine ⟨r.wd.step s, r.len, fun i x e => ?_, r.inj, r.tg⟩
  have h := r.sl i x e
  cases x with
  | tr t =>
    obtain ⟨v, as, e1, e2, e3, e4⟩ := h
    exact ⟨v, as, e1, TrOk.step s.ky t v as (fun a ha => s.same a (e4 a ha).1 (e4 a ha).2.1) e2, e3, e4⟩
  | no => trivial
  | d x =>
    obtain ⟨v, e1, e2⟩ := h
    exact ⟨v, e1, e2.ky s.ky⟩
  | own xs =>
    obtain ⟨e1, e2, e3, vs, e4, e5⟩ := h
    exact ⟨e1, e2, e3, vs, by rw [s.same _ e2 e3]; exact e4, e5.ky s.ky⟩
  | pur => exact h
  | exc C =>
    obtain ⟨a, e1, e2⟩ := h
    exact ⟨a, e1, s.ky _ _ (fun _ z => nomatch z) e2⟩
theorem Dk.step {v : V} {x : PyData} (h : Dk K w H v x) (s : Stp w T H T1 H1) : Dk K w H1 v x := by
  rcases h with h | ⟨l, vs, ds, e1, e2, e3, e4, e5, e6⟩
  · exact .inl (h.ky s.ky)
  · exact .inr ⟨l, vs, ds, e1, e2, e3, by rw [s.same _ e2 e3]; exact e4, e5.ky s.ky, e6⟩
theorem Df.up {v : V} {x : PyData} (h : Df K (hidL w.O H) v x) : Df K H v x := h.ky (Ky.of hidL_le)
theorem DfAll.up {v : List V} {x : List PyData} (h : DfAll K (hidL w.O H) v x) : DfAll K H v x := h.ky (Ky.of hidL_le)
theorem Dk.df {v : V} {x : PyData} (h : Dk K w H v x) : Df K H v x := by
  rcases h with h | ⟨l, vs, ds, rfl, _, _, e, d, rfl⟩
  · exact h.up
  · exact .lst e d.up
theorem Dk.dp {v : V} {x : PyData} (h : Dk K w H v x) : Dp K H v x := Df.dp x v h.df
theorem dk_list {v : V} {ds : List PyData} (h : Dk K w H v (.list ds)) : ∃ l vs, v = .ref l ∧ H l = some (.lst vs) ∧ DfAll K (hidL w.O H) vs ds := by
  rcases h with h | ⟨l, vs, ds', e1, _, _, e2, e3, e4⟩
  · obtain ⟨a, xs, e1, e2, e3⟩ := df_list h
    exact ⟨a, xs, e1, (hidL_off e2).2, e3⟩
  · cases e4
    exact ⟨l, vs, e1, e2, e3⟩
theorem tz_up {a : Addr} {xs : List V} (h : Tz K (hidL w.O H) a xs) : Tz K H a xs := (Ky.of hidL_le).tz h
theorem dk_tup {v : V} {ds : List PyData} (h : Dk K w H v (.tuple ds)) : ∃ a xs, v = .ref a ∧ Tz K (hidL w.O H) a xs ∧ DfAll K (hidL w.O H) xs ds := by
  rcases h with h | ⟨l, vs, ds', _, _, _, _, _, e4⟩
  · exact df_tup h
  · cases e4
theorem dk_int {v : V} {i : Int} (h : Dk K w H v (.int i)) : v = .int i := by
  rcases h with h | ⟨l, vs, ds', _, _, _, _, _, e4⟩
  · exact df_int h
  · cases e4
theorem dk_str {v : V} {i : Str} (h : Dk K w H v (.str i)) : v = .str i ∧ sOk i = true := by
  rcases h with h | ⟨l, vs, ds', _, _, _, _, _, e4⟩
  · cases h with
    | str _ k => exact ⟨rfl, k⟩
  · cases e4
theorem dk_bl {v : V} {i : Bool} (h : Dk K w H v (.bool i)) : v = .bl i := by
  rcases h with h | ⟨l, vs, ds', _, _, _, _, _, e4⟩
  · exact df_bl h
  · cases e4
theorem dk_non {v : V} (h : Dk K w H v .none) : v = .non := by
  rcases h with h | ⟨l, vs, ds', _, _, _, _, _, e4⟩
  · exact df_non h
  · cases e4
theorem dk_dict {v : V} {kv : List (PyData × PyData)} (h : Dk K w H v (.dict kv)) : False := by
  rcases h with h | ⟨l, vs, ds', _, _, _, _, _, e4⟩
  · cases h
  · cases e4
end
/-! ### judgements -/
abbrev DE := Env' → Nat → (PyData → Nat → Prop) → Prop
abbrev DT := Env' → Nat → (Bool → Nat → Prop) → Prop
abbrev DA := Env' → Nat → (List DV → Nat → Prop) → Prop
def tD (K : PySem.W.Frag) (D : DC) (f : DE) : TE := fun σ H Q => ∃ w E T Qh, Rp K D w E T σ H ∧ f E T Qh ∧ ∀ x T' v H', Stp w T H T' H' → Df K (hidL w.O H') v x → Qh x T' → Q v H'
def tK (K : PySem.W.Frag) (D : DC) (f : DE) : TE := fun σ H Q => ∃ w E T Qh, Rp K D w E T σ H ∧ f E T Qh ∧ ∀ x T' v H', Stp w T H T' H' → Dk K w H' v x → Qh x T' → Q v H'
def tT (K : PySem.W.Frag) (D : DC) (f : DT) : TT := fun σ H Q => ∃ w E T Qh, Rp K D w E T σ H ∧ f E T Qh ∧ ∀ b T' H', Stp w T H T' H' → Qh b T' → Q b H'
def ArgOk (K : PySem.W.Frag) (hp : Bool) (p : Addr) (H : Hp) (v : V) : DV → Prop
  | .d x => Df K H v x
  | .pur => hp = true ∧ v = .ref p
  | .exc C => ∃ a, v = .ref a ∧ H a = some (Cv.xob a C none)
  | _ => False
theorem ArgOk.ky {K : PySem.W.Frag} {hp : Bool} {p : Addr} {H H' : Hp} {v : V} {a : DV} (h : ArgOk K hp p H v a) (k : Ky H H') : ArgOk K hp p H' v a := by
  cases a with
  | d x => exact Df.ky h k
  | pur => exact h
  | no => exact h
  | own _ => exact h
  | exc _ =>
    obtain ⟨a, e1, e2⟩ := h
    exact ⟨a, e1, k _ _ (fun _ z => nomatch z) e2⟩
  | tr _ => exact h
def tA (K : PySem.W.Frag) (D : DC) (f : DA) : TA := fun σ H Q => ∃ w E T Qh, Rp K D w E T σ H ∧ f E T Qh ∧ ∀ as T' vs H', Stp w T H T' H' → Paired (ArgOk K w.hp w.p (hidL w.O H')) vs as → Qh as T' → Q vs H'
def PD (X : Cx) (D : DC) (e : Expr) (f : DE) : Prop := PE X e (tD X.K D f)
def PK (X : Cx) (D : DC) (e : Expr) (f : DE) : Prop := PE X e (tK X.K D f)
def PTd (X : Cx) (D : DC) (e : Expr) (f : DT) : Prop := PT X e (tT X.K D f)
def PWd (X : Cx) (D : DC) (e : Expr) (f : DT) : Prop := PW X e (tT X.K D f)
def PAd (X : Cx) (D : DC) (es : List Expr) (f : DA) : Prop := PA X es (tA X.K D f)
section
variable {X : Cx} {D : DC} {e a b c : Expr} {f fa fb fc : DE} {pos : Pos}
theorem PE.imp {t t' : TE} (h : PE X e t) (i : ∀ σ H Q, t' σ H Q → t σ H Q) : PE X e t' := ⟨fun pins s σ H Q I q => h.run pins s σ H Q I (i σ H Q q)⟩
theorem PT.imp {t t' : TT} (h : PT X e t) (i : ∀ σ H Q, t' σ H Q → t σ H Q) : PT X e t' := ⟨fun pins s σ H Q I q => h.run pins s σ H Q I (i σ H Q q)⟩
theorem PW.imp {t t' : TT} (h : PW X e t) (i : ∀ σ H Q, t' σ H Q → t σ H Q) : PW X e t' := ⟨fun wh pins s σ H Q I q => h.run wh pins s σ H Q I (i σ H Q q)⟩
theorem PA.imp {es : List Expr} {t t' : TA} (h : PA X es t) (i : ∀ σ H Q, t' σ H Q → t σ H Q) : PA X es t' := ⟨fun pos pins s σ H Q I q => h.run pos pins s σ H Q I (i σ H Q q)⟩
theorem PD.k (h : PD X D e f) : PK X D e f := PE.imp h fun σ H Q ⟨w, E, T, Qh, R, hf, q⟩ => ⟨w, E, T, Qh, R, hf, fun x T' v H' s d => q x T' v H' s (.inl d)⟩
/-- a name -/
def dVar (i : Nat) : DE := fun E T Q => match E[i]? with
  | some (.d x) => Q x T
  | _ => False
def dVarK (i : Nat) : DE := fun E T Q => match E[i]? with
  | some (.d x) => Q x T
  | some (.own xs) => Q (.list xs) T
  | _ => False
theorem pd_var {i : Nat} {x : Str} (h : PE X (.Name x pos) (tVar i)) : PD X D (.Name x pos) (dVar i) := PE.imp h fun σ H Q ⟨w, E, T, Qh, R, hf, q⟩ => by
  unfold dVar at hf
  split at hf
  · rename_i x e
    obtain ⟨v, e1, e2⟩ := R.sl i _ e
    exact ⟨v, e1, q x T v H R.wd.refl e2 hf⟩
  · exact hf.elim
theorem pk_var {i : Nat} {x : Str} (h : PE X (.Name x pos) (tVar i)) : PK X D (.Name x pos) (dVarK i) := PE.imp h fun σ H Q ⟨w, E, T, Qh, R, hf, q⟩ => by
  unfold dVarK at hf
  split at hf
  · rename_i x e
    obtain ⟨v, e1, e2⟩ := R.sl i _ e
    exact ⟨v, e1, q x T v H R.wd.refl (.inl e2) hf⟩
  · rename_i xs e
    obtain ⟨e1, e2, e3, vs, e4, e5⟩ := R.sl i _ e
    exact ⟨_, e1, q _ T _ H R.wd.refl (.inr ⟨_, vs, xs, rfl, e2, e3, e4, e5, rfl⟩) hf⟩
  · exact hf.elim
/-- what is written -/
def dC (x : PyData) : DE := fun _ T Q => Q x T
theorem pd_c {v : V} {x : PyData} (h : PE X e (tC v)) (hv : ∀ K H, Df K H v x) : PD X D e (dC x) := PE.imp h fun σ H Q ⟨w, E, T, Qh, R, hf, q⟩ => q x T v H R.wd.refl (hv _ _) hf
theorem pd_int {i j} : PD X D (.Constant (.int i) j pos) (dC (.int i)) := pd_c pe_int fun _ _ => .int _
theorem pd_bl {i j} : PD X D (.Constant (.bool i) j pos) (dC (.bool i)) := pd_c pe_bl fun _ _ => .bl _
theorem pd_non {j} : PD X D (.Constant .none j pos) (dC .none) := pd_c pe_non fun _ _ => .non
theorem pd_str {i j} (h : sOk i = true := by decide +kernel) : PD X D (.Constant (.str i) j pos) (dC (.str i)) := pd_c pe_str fun _ _ => .str _ h
theorem pd_glob {x : Str} {n : Int} {t : Tok} (hg : Gl X x) (hm : X.mg x = some (.int n t)) (hd : (x == ("__debug__" : Str)) = false := by decide) : PD X D (.Name x pos) (dC (.int n)) := pd_c (pe_glob (v := .int n) hg hm ⟨t, rfl⟩ hd) fun _ _ => .int _
/-! operations by data -/
abbrev DO := PyData → PyData → Option PyData
def OpD (X : Cx) (f : Value → Value → Sem Value) (op : DO) : Prop := ∃ r, OpR X f r ∧ ∀ (w : Wst) (H : Hp) (v u : V) (x y z : PyData) (Q : VK), (∀ a ∈ w.O, ∃ xs, H a = some (.lst xs)) → Dk X.K w H v x → Dk X.K w H u y → op x y = some z → (∀ v' H', Same H H' → Df X.K (hidL w.O H') v' z → Q v' H') → r v u H Q
def optQ (o : Option PyData) (T : Nat) (Q : PyData → Nat → Prop) : Prop := match o with
  | some z => Q z T
  | none => False
theorem optQ_some {o : Option PyData} {T : Nat} {Q : PyData → Nat → Prop} (h : optQ o T Q) : ∃ z, o = some z ∧ Q z T := by
  cases o with
  | none => exact h.elim
  | some z => exact ⟨z, rfl, h⟩
theorem optQ_of {o : Option PyData} {T : Nat} {Q : PyData → Nat → Prop} {z : PyData} (e : o = some z) (h : Q z T) : optQ o T Q := by
  rw [e]
  exact h
def dOp (op : DO) (fa fb : DE) : DE := fun E T Q => fa E T fun x T1 => fb E T1 fun y T2 => optQ (op x y) T2 Q
theorem op_run {op : DO} {r : R2} (hs : ∀ (w : Wst) (H : Hp) (v u : V) (x y z : PyData) (Q : VK), (∀ a ∈ w.O, ∃ xs, H a = some (.lst xs)) → Dk X.K w H v x → Dk X.K w H u y → op x y = some z → (∀ v' H', Same H H' → Df X.K (hidL w.O H') v' z → Q v' H') → r v u H Q)
    {σ : L2.St} {H : Hp} {Q : VK} (h : tD X.K D (dOp op fa fb) σ H Q) : tOp r (tK X.K D fa) (tK X.K D fb) σ H Q := by
  obtain ⟨w, E, T, Qh, R, hf, q⟩ := h
  refine ⟨w, E, T, _, R, hf, fun x T1 v H1 s1 d1 h1 => ⟨w, E, T1, _, R.step s1, h1, fun y T2 u H2 s2 d2 h2 => ?_⟩⟩
  obtain ⟨z, e, h3⟩ := optQ_some h2
  have R2 := (R.step s1).step s2
  exact hs w H2 v u x y z Q R2.wd.lst (d1.step s2) d2 e fun v' H' sm df => q z T2 v' H' ((s1.trans s2).trans (R2.wd.stp sm)) df h3
theorem pd_op {op : Operator} {g : DO} (ho : OpD X (binaryOp op) g) (ha : PK X D a fa) (hb : PK X D b fb) : PD X D (.BinOp a op b pos) (dOp g fa fb) := by
  obtain ⟨r, hr, hs⟩ := ho
  exact PE.imp (pe_op hr ha hb) fun σ H Q h => op_run hs h
theorem pd_cmp {op : CmpOp} {g : DO} (ho : OpD X (compareOp op) g) (ha : PK X D a fa) (hb : PK X D b fb) (hm : behindInMarks op b = false) : PD X D (.Compare a [op] [b] pos) (dOp g fa fb) := by
  obtain ⟨r, hr, hs⟩ := ho
  exact PE.imp (pe_cmpR hr ha hb hm) fun σ H Q h => op_run hs h
/-- a truth -/
def dTst (f : DE) : DT := fun E T Q => f E T fun x T1 => match x with
  | .bool b => Q b T1
  | _ => False
theorem tst_run {t : TE} (hi : ∀ σ H Q, tD X.K D f σ H Q → t σ H Q) {σ : L2.St} {H : Hp} {Q : Bool → Hp → Prop} (h : tT X.K D (dTst f) σ H Q) : tTest t σ H Q := by
  obtain ⟨w, E, T, Qh, R, hf, q⟩ := h
  refine hi σ H _ ⟨w, E, T, _, R, hf, fun x T1 v H1 s1 d1 h1 => ?_⟩
  cases x with
  | bool b => exact ⟨b, df_bl d1, q b T1 H1 s1 h1⟩
  | _ => exact h1.elim
theorem ptd_cmp {op : CmpOp} {g : DO} (ho : OpD X (compareOp op) g) (ha : PK X D a fa) (hb : PK X D b fb) (hm : behindInMarks op b = false) : PTd X D (.Compare a [op] [b] pos) (dTst (dOp g fa fb)) := by
  obtain ⟨r, hr, hs⟩ := ho
  exact PT.imp (pt_cmpR hr ha hb hm) fun σ H Q h => tst_run (fun σ H Q h => op_run hs h) h
/-- a op b op' c -/
def dChain (g g' : DO) (fa fb fc : DE) : DE := fun E T Q => fa E T fun x T1 => fb E T1 fun y T2 => match g x y with
  | some (.bool b) => if b = true then fc E T2 fun z T3 => optQ (g' y z) T3 Q else Q (.bool false) T2
  | _ => False
theorem chain_run {g g' : DO} {r r' : R2} (hs : ∀ (w : Wst) (H : Hp) (v u : V) (x y z : PyData) (Q : VK), (∀ a ∈ w.O, ∃ xs, H a = some (.lst xs)) → Dk X.K w H v x → Dk X.K w H u y → g x y = some z → (∀ v' H', Same H H' → Df X.K (hidL w.O H') v' z → Q v' H') → r v u H Q)
    (hs' : ∀ (w : Wst) (H : Hp) (v u : V) (x y z : PyData) (Q : VK), (∀ a ∈ w.O, ∃ xs, H a = some (.lst xs)) → Dk X.K w H v x → Dk X.K w H u y → g' x y = some z → (∀ v' H', Same H H' → Df X.K (hidL w.O H') v' z → Q v' H') → r' v u H Q)
    {σ : L2.St} {H : Hp} {Q : VK} (h : tD X.K D (dChain g g' fa fb fc) σ H Q) : tChain r r' (tK X.K D fa) (tK X.K D fb) (tK X.K D fc) σ H Q := by
  obtain ⟨w, E, T, Qh, R, hf, q⟩ := h
  refine ⟨w, E, T, _, R, hf, fun x T1 v H1 s1 d1 h1 => ⟨w, E, T1, _, R.step s1, h1, fun y T2 u H2 s2 d2 h2 => ?_⟩⟩
  have R2 := (R.step s1).step s2
  cases e : g x y with
  | none =>
    rw [e] at h2
    exact h2.elim
  | some z =>
    rw [e] at h2
    cases z with
    | bool k =>
      refine hs w H2 v u x y _ _ R2.wd.lst (d1.step s2) d2 e fun v' H' sm df => ?_
      have s3 := R2.wd.stp sm
      have R3 := R2.step s3
      refine ⟨k, df_bl df, ?_⟩
      cases k with
      | true =>
        refine ⟨w, E, T2, _, R3, h2, fun z T3 uz H4 s4 d4 h4 => ?_⟩
        obtain ⟨z', e2, h5⟩ := optQ_some h4
        have R4 := R3.step s4
        exact hs' w H4 u uz y z z' Q R4.wd.lst ((d2.step s3).step s4) d4 e2 fun v' H' sm df => q z' T3 v' H' ((((s1.trans s2).trans s3).trans s4).trans (R4.wd.stp sm)) df h5
      | false => exact q _ T2 _ H' ((s1.trans s2).trans s3) (.bl false) h2
    | _ => exact h2.elim
theorem pd_chain {op op' : CmpOp} {g g' : DO} (ho : OpD X (compareOp op) g) (ho' : OpD X (compareOp op') g') (ha : PK X D a fa) (hb : PK X D b fb) (hc : PK X D c fc) (hm : lastMarks [op, op'] [b, c] = false := by with_unfolding_all rfl) :
    PD X D (.Compare a [op, op'] [b, c] pos) (dChain g g' fa fb fc) := by
  obtain ⟨r, hr, hs⟩ := ho
  obtain ⟨r', hr', hs'⟩ := ho'
  exact PE.imp (pe_chain hr hr' ha hb hc hm) fun σ H Q h => chain_run hs hs' h
theorem ptd_chain {op op' : CmpOp} {g g' : DO} (ho : OpD X (compareOp op) g) (ho' : OpD X (compareOp op') g') (ha : PK X D a fa) (hb : PK X D b fb) (hc : PK X D c fc) (hm : lastMarks [op, op'] [b, c] = false := by with_unfolding_all rfl) :
    PTd X D (.Compare a [op, op'] [b, c] pos) (dTst (dChain g g' fa fb fc)) := by
  obtain ⟨r, hr, hs⟩ := ho
  obtain ⟨r', hr', hs'⟩ := ho'
  exact PT.imp (pt_chain hr hr' ha hb hc hm) fun σ H Q h => tst_run (fun σ H Q h => chain_run hs hs' h) h
/-! tests -/
def truthD : PyData → Bool
  | .none => false
  | .bool b => b
  | .int i => i != 0
  | .str z => (z.length : Int) != 0
  | .list ds => !ds.isEmpty
  | .tuple ds => !ds.isEmpty
  | .dict _ => false
def dTru (f : DE) : DT := fun E T Q => f E T fun x T1 => Q (truthD x) T1
theorem empty_eq {K : PySem.W.Frag} {H : Hp} {vs : List V} {ds : List PyData} (h : DfAll K H vs ds) : (!ds.isEmpty) = !vs.isEmpty := by
  cases h <;> rfl
theorem ptd_tru (h : PK X D e f) (he : ∀ whole, isTrue e X.env whole = (do let v ← whole; standAt e.pos; holding [v] (truthy v)) := by intro _; rfl) : PTd X D e (dTru f) := by
  refine PT.imp (pt_truth h he) fun σ H Q ⟨w, E, T, Qh, R, hf, q⟩ => ⟨w, E, T, _, R, hf, fun x T1 v H1 s1 d1 h1 => ⟨truthD x, ?_, q _ T1 H1 s1 h1⟩⟩
  cases x with
  | none => rw [dk_non d1]; rfl
  | bool b => rw [dk_bl d1]; rfl
  | int i => rw [dk_int d1]; rfl
  | str z =>
    obtain ⟨rfl, k⟩ := dk_str d1
    exact ⟨sOk.line k, rfl⟩
  | list ds =>
    obtain ⟨l, vs, rfl, e1, e2⟩ := dk_list d1
    exact .inl ⟨vs, SqL.of e1, empty_eq e2⟩
  | tuple ds =>
    obtain ⟨l, vs, rfl, e1, e2⟩ := dk_tup d1
    exact .inr (.inl ⟨vs, (tz_up e1).sq, empty_eq e2⟩)
  | dict kv => exact (dk_dict d1).elim
variable {ta tb : DT} {rest : List Expr}
def dNot (f : DT) : DT := fun E T Q => f E T fun b T1 => Q (!b) T1
def dAnd (f g : DT) : DT := fun E T Q => f E T fun b T1 => if b = true then g E T1 Q else Q false T1
def dOr (f g : DT) : DT := fun E T Q => f E T fun b T1 => if b = true then Q true T1 else g E T1 Q
theorem ptd_not (h : PTd X D a ta) : PTd X D (.UnaryOp .Not a pos) (dNot ta) := PT.imp (pt_not h) fun σ H Q ⟨w, E, T, Qh, R, hf, q⟩ => ⟨w, E, T, _, R, hf, fun x T1 H1 s1 h1 => q _ T1 H1 s1 h1⟩
theorem pwd_and1 (h : PTd X D a ta) : PWd X D (.BoolOp .And [a] pos) ta := pw_and1 h
theorem pwd_or1 (h : PTd X D a ta) : PWd X D (.BoolOp .Or [a] pos) ta := pw_or1 h
theorem pwd_and (h : PTd X D a ta) (g : PWd X D (.BoolOp .And (b :: rest) pos) tb) : PWd X D (.BoolOp .And (a :: b :: rest) pos) (dAnd ta tb) := PW.imp (pw_and h g) fun σ H Q ⟨w, E, T, Qh, R, hf, q⟩ => ⟨w, E, T, _, R, hf, fun x T1 H1 s1 h1 => by
  cases x with
  | true => exact ⟨w, E, T1, _, R.step s1, h1, fun y T2 H2 s2 h2 => q _ T2 H2 (s1.trans s2) h2⟩
  | false => exact q _ T1 H1 s1 h1⟩
theorem pwd_or (h : PTd X D a ta) (g : PWd X D (.BoolOp .Or (b :: rest) pos) tb) : PWd X D (.BoolOp .Or (a :: b :: rest) pos) (dOr ta tb) := PW.imp (pw_or h g) fun σ H Q ⟨w, E, T, Qh, R, hf, q⟩ => ⟨w, E, T, _, R, hf, fun x T1 H1 s1 h1 => by
  cases x with
  | true => exact q _ T1 H1 s1 h1
  | false => exact ⟨w, E, T1, _, R.step s1, h1, fun y T2 H2 s2 h2 => q _ T2 H2 (s1.trans s2) h2⟩⟩
theorem PWd.pt (h : PWd X D e ta) : PTd X D e ta := PW.pt h
/-! truths as values -/
def dBoolE (f : DE) (k : Bool → Nat → Prop) : Env' → Nat → Prop := fun E T => f E T fun x T1 => match x with
  | .bool b => k b T1
  | _ => False
def dAndE (f g : DE) : DE := fun E T Q => dBoolE f (fun b T1 => if b = true then g E T1 Q else Q (.bool false) T1) E T
def dOrE (f g : DE) : DE := fun E T Q => dBoolE f (fun b T1 => if b = true then Q (.bool true) T1 else g E T1 Q) E T
def dNotE (f : DE) : DE := fun E T Q => dBoolE f (fun b T1 => Q (.bool !b) T1) E T
theorem pd_one {op} (h : PD X D a fa) : PD X D (.BoolOp op [a] pos) fa := pe_one h
theorem pd_and (h : PD X D a fa) (g : PD X D (.BoolOp .And (b :: rest) pos) fb) : PD X D (.BoolOp .And (a :: b :: rest) pos) (dAndE fa fb) := PE.imp (pe_and h g) fun σ H Q ⟨w, E, T, Qh, R, hf, q⟩ => ⟨w, E, T, _, R, hf, fun x T1 v H1 s1 d1 h1 => by
  cases x with
  | bool k =>
    refine ⟨k, df_bl d1, ?_⟩
    cases k with
    | true => exact ⟨w, E, T1, _, R.step s1, h1, fun y T2 u H2 s2 d2 h2 => q _ T2 u H2 (s1.trans s2) d2 h2⟩
    | false => exact q _ T1 _ H1 s1 (.bl false) h1
  | _ => exact h1.elim⟩
theorem pd_or (h : PD X D a fa) (g : PD X D (.BoolOp .Or (b :: rest) pos) fb) : PD X D (.BoolOp .Or (a :: b :: rest) pos) (dOrE fa fb) := PE.imp (pe_or h g) fun σ H Q ⟨w, E, T, Qh, R, hf, q⟩ => ⟨w, E, T, _, R, hf, fun x T1 v H1 s1 d1 h1 => by
  cases x with
  | bool k =>
    refine ⟨k, df_bl d1, ?_⟩
    cases k with
    | true => exact q _ T1 _ H1 s1 (.bl true) h1
    | false => exact ⟨w, E, T1, _, R.step s1, h1, fun y T2 u H2 s2 d2 h2 => q _ T2 u H2 (s1.trans s2) d2 h2⟩
  | _ => exact h1.elim⟩
theorem pd_not (h : PD X D a fa) : PD X D (.UnaryOp .Not a pos) (dNotE fa) := PE.imp (pe_not h) fun σ H Q ⟨w, E, T, Qh, R, hf, q⟩ => ⟨w, E, T, _, R, hf, fun x T1 v H1 s1 d1 h1 => by
  cases x with
  | bool k => exact ⟨k, df_bl d1, q _ T1 _ H1 s1 (.bl _) h1⟩
  | _ => exact h1.elim⟩
def dIf (t : DT) (f g : DE) : DE := fun E T Q => t E T fun b T1 => if b = true then f E T1 Q else g E T1 Q
theorem pd_if (ht : PTd X D c ta) (h : PD X D a fa) (g : PD X D b fb) : PD X D (.IfExp c a b pos) (dIf ta fa fb) := PE.imp (pe_ifExp ht h g) fun σ H Q ⟨w, E, T, Qh, R, hf, q⟩ => ⟨w, E, T, _, R, hf, fun x T1 H1 s1 h1 => by
  cases x with
  | true => exact ⟨w, E, T1, _, R.step s1, h1, fun y T2 u H2 s2 d2 h2 => q _ T2 u H2 (s1.trans s2) d2 h2⟩
  | false => exact ⟨w, E, T1, _, R.step s1, h1, fun y T2 u H2 s2 d2 h2 => q _ T2 u H2 (s1.trans s2) d2 h2⟩⟩
/-! arguments -/
def dNil : DA := fun _ T Q => Q [] T
def dCons (f : DE) (g : DA) : DA := fun E T Q => f E T fun x T1 => g E T1 fun xs T2 => Q (.d x :: xs) T2
def dPurA (i : Nat) (g : DA) : DA := fun E T Q => (match E[i]? with
  | some .pur => True
  | _ => False) ∧ g E T fun xs T2 => Q (.pur :: xs) T2
variable {es : List Expr} {g : DA}
theorem pad_nil : PAd X D [] dNil := PA.imp pa_nil fun σ H Q ⟨w, E, T, Qh, R, hf, q⟩ => q [] T [] H R.wd.refl .nil hf
theorem pad_cons (h : PD X D e f) (hg : PAd X D es g) (hs : starEach (e :: es) X.env = (false, eval e X.env) :: starEach es X.env := by rfl) : PAd X D (e :: es) (dCons f g) := PA.imp (pa_cons h hg hs) fun σ H Q ⟨w, E, T, Qh, R, hf, q⟩ =>
  ⟨w, E, T, _, R, hf, fun x T1 v H1 s1 d1 h1 => ⟨w, E, T1, _, R.step s1, h1, fun as T2 vs H2 s2 d2 h2 => q (.d x :: as) T2 (v :: vs) H2 (s1.trans s2) (.cons (show ArgOk X.K w.hp w.p _ v (.d x) from d1.ky s2.ky) d2) h2⟩⟩
def dExcA (i : Nat) (g : DA) : DA := fun E T Q => match E[i]? with
  | some (.exc C) => g E T fun xs T2 => Q (.exc C :: xs) T2
  | _ => False
theorem pad_exc {i : Nat} {x : Str} (h : PE X (.Name x pos) (tVar i)) (hg : PAd X D es g) (hs : starEach (.Name x pos :: es) X.env = (false, eval (.Name x pos) X.env) :: starEach es X.env := by rfl) : PAd X D (.Name x pos :: es) (dExcA i g) := PA.imp (pa_cons h hg hs) fun σ H Q ⟨w, E, T, Qh, R, hf, q⟩ => by
  unfold dExcA at hf
  split at hf
  · rename_i C e
    obtain ⟨a, e1, e2⟩ := R.sl i _ e
    exact ⟨_, e1, w, E, T, _, R, hf, fun as T2 vs H2 s2 d2 h2 => q (.exc C :: as) T2 (.ref a :: vs) H2 s2 (.cons (show ArgOk X.K w.hp w.p _ (.ref a) (.exc C) from ⟨a, rfl, s2.ky _ _ (fun _ z => nomatch z) e2⟩) d2) h2⟩
  · exact hf.elim
theorem pad_pur {i : Nat} {x : Str} (h : PE X (.Name x pos) (tVar i)) (hg : PAd X D es g) (hs : starEach (.Name x pos :: es) X.env = (false, eval (.Name x pos) X.env) :: starEach es X.env := by rfl) : PAd X D (.Name x pos :: es) (dPurA i g) := PA.imp (pa_cons h hg hs) fun σ H Q ⟨w, E, T, Qh, R, hf, q⟩ => by
  obtain ⟨h0, hf⟩ := hf
  split at h0
  · rename_i e
    obtain ⟨e1, e2⟩ := R.sl i _ e
    exact ⟨_, e2, w, E, T, _, R, hf, fun as T2 vs H2 s2 d2 h2 => q (.pur :: as) T2 (.ref w.p :: vs) H2 s2 (.cons (show ArgOk X.K w.hp w.p _ (.ref w.p) .pur from ⟨e1, rfl⟩) d2) h2⟩
  · exact h0.elim
end
end Dv
set_option Elab.async false
set_option linter.all false
set_option maxRecDepth 100000
set_option maxHeartbeats 4000000
namespace Dv
open PySem PySem.Spec PyProof.Rows L2
/-! ### statements -/
structure DEnds where
  nx : Env' → Nat → Prop
  rt : DRt → Nat → Prop
  bk : Env' → Nat → Prop := fun _ _ => False
  ct : Env' → Nat → Prop := fun _ _ => False
abbrev DS := Env' → Nat → DEnds → Prop
/-- what was data is data; the own lists may be others -/
structure Ext (w : Wst) (H : Hp) (w' : Wst) (H' : Hp) : Prop where
  h0 : w'.H0 = w.H0
  p : w'.p = w.p
  c : w'.c = w.c
  hp : w'.hp = w.hp
  ky : Ky (hidL w.O H) (hidL w'.O H')
theorem Ext.refl {w : Wst} {H : Hp} : Ext w H w H := ⟨rfl, rfl, rfl, rfl, Ky.refl⟩
theorem Ext.trans {w w1 w2 : Wst} {H H1 H2 : Hp} (a : Ext w H w1 H1) (b : Ext w1 H1 w2 H2) : Ext w H w2 H2 := ⟨b.h0.trans a.h0, b.p.trans a.p, b.c.trans a.c, b.hp.trans a.hp, a.ky.trans b.ky⟩
theorem Stp.ext {w : Wst} {T T' : Nat} {H H' : Hp} (s : Stp w T H T' H') : Ext w H w H' := ⟨rfl, rfl, rfl, rfl, s.ky⟩
def RtV (K : PySem.W.Frag) (w : Wst) (H : Hp) (v : V) : DRt → Prop
  | .d x => Df K (hidL w.O H) v x
  | .own xs => ∃ l vs, v = .ref l ∧ l ∈ w.O ∧ w.off l ∧ H l = some (.lst vs) ∧ DfAll K (hidL w.O H) vs xs
structure Lnk (K : PySem.W.Frag) (D : DC) (w : Wst) (H : Hp) (Dh : DEnds) (Dn : Ends) : Prop where
  nx : ∀ w' E T σ H', Ext w H w' H' → Rp K D w' E T σ H' → Dh.nx E T → Dn.nx σ H'
  rt : ∀ w' T r v H', Ext w H w' H' → Wd D w' T H' → RtV K w' H' v r → Dh.rt r T → Dn.rt v H'
  bk : ∀ w' E T σ H', Ext w H w' H' → Rp K D w' E T σ H' → Dh.bk E T → Dn.bk σ H'
  ct : ∀ w' E T σ H', Ext w H w' H' → Rp K D w' E T σ H' → Dh.ct E T → Dn.ct σ H'
theorem Lnk.ext {K : PySem.W.Frag} {D : DC} {w w1 : Wst} {H H1 : Hp} {Dh : DEnds} {Dn : Ends} (l : Lnk K D w H Dh Dn) (x : Ext w H w1 H1) : Lnk K D w1 H1 Dh Dn :=
  ⟨fun w' E T σ H' y => l.nx w' E T σ H' (x.trans y), fun w' T r v H' y => l.rt w' T r v H' (x.trans y), fun w' E T σ H' y => l.bk w' E T σ H' (x.trans y), fun w' E T σ H' y => l.ct w' E T σ H' (x.trans y)⟩
def tS (K : PySem.W.Frag) (D : DC) (g : DS) : TS := fun Dn σ H => ∃ w E T Dh, Rp K D w E T σ H ∧ g E T Dh ∧ Lnk K D w H Dh Dn
def PSd (X : Cx) (D : DC) (st : Stmt) (g : DS) : Prop := PS X st (tS X.K D g)
def PSsd (X : Cx) (D : DC) (st : List Stmt) (g : DS) : Prop := PSs X st (tS X.K D g)
theorem PS.imp {X : Cx} {st : Stmt} {t t' : TS} (h : PS X st t) (i : ∀ Dn σ H, t' Dn σ H → t Dn σ H) : PS X st t' := ⟨fun pins s σ H Dn I q => h.run pins s σ H Dn I (i Dn σ H q)⟩
theorem PSs.imp {X : Cx} {st : List Stmt} {t t' : TS} (h : PSs X st t) (i : ∀ Dn σ H, t' Dn σ H → t Dn σ H) : PSs X st t' := ⟨fun pins s σ H Dn I q => h.run pins s σ H Dn I (i Dn σ H q)⟩
/-! ### slots are set -/
section
variable {K : PySem.W.Frag} {D : DC} {w : Wst} {E : Env'} {σ : L2.St} {T : Nat} {H : Hp}
theorem set_get {α : Type} {l : List α} {i j : Nat} {x y : α} (h : (l.set i x)[j]? = some y) : (j = i ∧ y = x ∧ i < l.length) ∨ (j ≠ i ∧ l[j]? = some y) := by
  by_cases e : j = i
  · subst e
    have hj : j < l.length := by
      have := (List.getElem?_eq_some_iff.mp h).1
      rw [List.length_set] at this
      exact this
    rw [List.getElem?_set_self hj] at h
    exact .inl ⟨rfl, (Option.some.inj h).symm, hj⟩
  · rw [List.getElem?_set_ne (fun z => e z.symm)] at h
    exact .inr ⟨e, h⟩
theorem Rp.set {i : Nat} {v : V} {x : PyData} (r : Rp K D w E T σ H) (d : Df K (hidL w.O H) v x) : Rp K D w (E.set i (.d x)) T (σ.set i (some v)) H := by
  refine ⟨r.wd, by rw [List.length_set, List.length_set, r.len], fun j y e => ?_, fun j k xs ys n e1 e2 => ?_, fun j xs e => ?_⟩
  rotate_right
  · rcases set_get e with ⟨_, z, _⟩ | ⟨_, e⟩
    · cases z
    · exact r.tg j xs e
  · rcases set_get e with ⟨rfl, rfl, hi⟩ | ⟨n, e⟩
    · exact ⟨v, by rw [List.getElem?_set_self (by rw [r.len]; exact hi)], d⟩
    · rw [List.getElem?_set_ne (fun z => n z.symm)]
      exact r.sl j y e
  · rcases set_get e1 with ⟨_, z, _⟩ | ⟨_, e1⟩
    · cases z
    · rcases set_get e2 with ⟨_, z, _⟩ | ⟨_, e2⟩
      · cases z
      · exact r.inj j k xs ys n e1 e2
/-- a new own list in slot i -/
def Wst.grow (w : Wst) (i : Nat) (l : Addr) : Wst := { w with O := l :: w.O, adr := fun j => if j = i then l else w.adr j, tag := fun a => if a = l then 0 else w.tag a }
structure StpO (w : Wst) (T : Nat) (H : Hp) (T' : Nat) (H' : Hp) (l : Addr) (vs : List V) : Prop where
  new : l ∉ w.O
  off : w.off l
  at_ : H' l = some (.lst vs)
  ky : Ky (hidL w.O H) (hidL (l :: w.O) H')
  same : ∀ a ∈ w.O, w.off a → H' a = H a
  pur : w.hp = true → Pur H' w.p w.c T'
theorem StpO.stp {T' : Nat} {H' : Hp} {l : Addr} {vs : List V} (s : StpO w T H T' H' l vs) : Stp w T H T' H' := ⟨s.ky.trans (Ky.of hidL_cons_le), s.same, s.pur⟩
theorem Rp.setO {i : Nat} {l : Addr} {vs : List V} {xs : List PyData} {T' : Nat} {H' : Hp} (r : Rp K D w E T σ H) (s : StpO w T H T' H' l vs) (d : DfAll K (hidL (l :: w.O) H') vs xs) : Rp K D (w.grow i l) (E.set i (.own xs)) T' (σ.set i (some (.ref l))) H' := by
  have r1 := r.step s.stp
  have nadr : ∀ j zs, E[j]? = some (.own zs) → w.adr j ≠ l := fun j zs e z => by
    obtain ⟨_, h2, _⟩ := r.sl j _ e
    rw [z] at h2
    exact s.new h2
  refine ⟨⟨r.wd.ky.trans s.ky, fun P hP => s.ky.tb P (r.wd.tab P hP), fun a ha => ?_, fun h => ⟨s.pur h, List.mem_cons_of_mem _ (r.wd.pur h).2.1, List.mem_cons_of_mem _ (r.wd.pur h).2.2⟩, r.wd.exl⟩, by rw [List.length_set, List.length_set, r.len], fun j y e => ?_, fun j k xs ys n e1 e2 => ?_, fun j zs e => ?_⟩
  rotate_right
  · rcases set_get e with ⟨rfl, _, _⟩ | ⟨n, e⟩
    · show (if (if j = j then l else w.adr j) = l then 0 else _) = 0
      rw [if_pos rfl, if_pos rfl]
    · show (if (if j = i then l else w.adr j) = l then 0 else w.tag (if j = i then l else w.adr j)) = 0
      rw [if_neg n]
      split
      · rfl
      · exact r.tg j zs e
  · rcases List.mem_cons.mp ha with rfl | ha
    · exact ⟨vs, s.at_⟩
    · exact r1.wd.lst a ha
  · rcases set_get e with ⟨rfl, rfl, hi⟩ | ⟨n, e⟩
    · show _ ∧ _ ∧ _ ∧ _
      have ej : (w.grow j l).adr j = l := if_pos rfl
      rw [ej]
      exact ⟨List.getElem?_set_self (by rw [r.len]; exact hi), List.mem_cons_self, s.off, vs, s.at_, d⟩
    · rw [List.getElem?_set_ne (fun z => n z.symm)]
      have h := r.sl j y e
      cases y with
      | no => trivial
      | d x =>
        obtain ⟨v, e1, e2⟩ := h
        exact ⟨v, e1, e2.ky s.ky⟩
      | own zs =>
        obtain ⟨e1, e2, e3, us, e4, e5⟩ := h
        have ej : (w.grow i l).adr j = w.adr j := if_neg n
        show _ ∧ _ ∧ _ ∧ _
        rw [ej]
        exact ⟨e1, List.mem_cons_of_mem _ e2, e3, us, by rw [s.same _ e2 e3]; exact e4, e5.ky s.ky⟩
      | pur => exact h
      | exc C =>
        obtain ⟨a, g1, g2⟩ := h
        exact ⟨a, g1, s.ky _ _ (fun _ z => nomatch z) g2⟩
      | tr t =>
        obtain ⟨v, as, g1, g2, g3, g4⟩ := h
        refine ⟨v, as, g1, TrOk.step s.ky t v as (fun a ha => s.same a (g4 a ha).1 (g4 a ha).2.1) g2, g3, fun a ha => ⟨List.mem_cons_of_mem _ (g4 a ha).1, (g4 a ha).2.1, ?_⟩⟩
        show (if a = l then 0 else w.tag a) = _
        rw [if_neg (show ¬ a = l from fun z => s.new (by rw [← z]; exact (g4 a ha).1))]
        exact (g4 a ha).2.2
  · rcases set_get e1 with ⟨rfl, _, _⟩ | ⟨n1, e1'⟩
    · rcases set_get e2 with ⟨z, _, _⟩ | ⟨n2, e2⟩
      · exact absurd z.symm n
      · show (if j = j then l else w.adr j) ≠ (if k = j then l else w.adr k)
        rw [if_pos rfl, if_neg n2]
        exact (nadr k _ e2).symm
    · rcases set_get e2 with ⟨rfl, _, _⟩ | ⟨n2, e2⟩
      · show (if j = k then l else w.adr j) ≠ (if k = k then l else w.adr k)
        rw [if_pos rfl, if_neg n]
        exact nadr j _ e1'
      · show (if j = i then l else w.adr j) ≠ (if k = i then l else w.adr k)
        rw [if_neg n1, if_neg n2]
        exact r.inj j k _ _ n e1' e2
theorem StpO.ext {i : Nat} {T' : Nat} {H' : Hp} {l : Addr} {vs : List V} (s : StpO w T H T' H' l vs) : Ext w H (w.grow i l) H' := ⟨rfl, rfl, rfl, rfl, s.ky⟩
/-- an own list is written -/
theorem Rp.upd {i : Nat} {xs ys : List PyData} {vs : List V} (r : Rp K D w E T σ H) (e : E[i]? = some (.own xs)) (d : DfAll K (hidL w.O H) vs ys) : Rp K D w (E.set i (.own ys)) T σ (upd H (w.adr i) (.lst vs)) ∧ Ext w H w (upd H (w.adr i) (.lst vs)) := by
  obtain ⟨e1, e2, e3, us, e4, e5⟩ := r.sl i _ e
  have hh : hidL w.O (L2.upd H (w.adr i) (.lst vs)) = hidL w.O H := hidL_upd e2
  have hi : i < E.length := (List.getElem?_eq_some_iff.mp e).1
  refine ⟨⟨⟨by rw [hh]; exact r.wd.ky, fun P hP => by rw [hh]; exact r.wd.tab P hP, fun a ha => ?_, fun h => ⟨(r.wd.pur h).1.of (upd_ne (e3 h).1.symm) (upd_ne (e3 h).2.symm), (r.wd.pur h).2⟩, r.wd.exl⟩, by rw [List.length_set, r.len], fun j y ej => ?_, fun j k xs ys n g1 g2 => ?_, fun j zs ej => ?_⟩, ⟨rfl, rfl, rfl, rfl, by rw [hh]; exact Ky.refl⟩⟩
  rotate_right
  · rcases set_get ej with ⟨rfl, _, _⟩ | ⟨_, ej⟩
    · exact r.tg _ _ e
    · exact r.tg j zs ej
  · by_cases z : a = w.adr i
    · rw [z]
      exact ⟨vs, upd_same⟩
    · rw [upd_ne z]
      exact r.wd.lst a ha
  · rcases set_get ej with ⟨rfl, rfl, _⟩ | ⟨n, ej⟩
    · exact ⟨e1, e2, e3, vs, upd_same, by rw [hh]; exact d⟩
    · have h := r.sl j y ej
      cases y with
      | no => trivial
      | d x =>
        obtain ⟨v, g1, g2⟩ := h
        exact ⟨v, g1, by rw [hh]; exact g2⟩
      | own zs =>
        obtain ⟨g1, g2, g3, us', g4, g5⟩ := h
        exact ⟨g1, g2, g3, us', by rw [upd_ne (r.inj j i _ _ n ej e)]; exact g4, by rw [hh]; exact g5⟩
      | pur => exact h
      | exc C =>
        obtain ⟨a, g1, g2⟩ := h
        exact ⟨a, g1, by rw [hh]; exact g2⟩
      | tr t =>
        obtain ⟨v, as, g1, g2, g3, g4⟩ := h
        refine ⟨v, as, g1, by rw [hh]; exact TrOk.step Ky.refl t v as (fun a ha => upd_ne fun z => absurd (g4 a ha).2.2 (by rw [z, r.tg i xs e]; omega)) g2, g3, g4⟩
  · rcases set_get g1 with ⟨rfl, _, _⟩ | ⟨n1, g1'⟩
    · rcases set_get g2 with ⟨z, _, _⟩ | ⟨n2, g2⟩
      · exact absurd z.symm n
      · exact r.inj j k _ _ n e g2
    · rcases set_get g2 with ⟨rfl, _, _⟩ | ⟨n2, g2⟩
      · exact r.inj j k _ _ n g1' e
      · exact r.inj j k _ _ n g1' g2
/-- an own list becomes data -/
def Wst.drop (w : Wst) (l : Addr) : Wst := { w with O := w.O.filter fun a => decide (a ≠ l) }
theorem Rp.rel {i : Nat} {xs : List PyData} (r : Rp K D w E T σ H) (e : E[i]? = some (.own xs)) : Rp K D (w.drop (w.adr i)) (E.set i (.d (.list xs))) T σ H ∧ Ext w H (w.drop (w.adr i)) H := by
  obtain ⟨e1, e2, e3, us, e4, e5⟩ := r.sl i _ e
  have inO : ∀ {a : Addr}, a ∈ (w.drop (w.adr i)).O ↔ a ∈ w.O ∧ a ≠ w.adr i := fun {a} => by
    show a ∈ w.O.filter _ ↔ _
    rw [List.mem_filter, decide_eq_true_iff]
  have ky : Ky (hidL w.O H) (hidL (w.drop (w.adr i)).O H) := Ky.of (hidL_sub fun a ha => (inO.mp ha).1)
  refine ⟨⟨⟨r.wd.ky.trans ky, fun P hP => ky.tb P (r.wd.tab P hP), fun a ha => r.wd.lst a (inO.mp ha).1, fun h => ⟨(r.wd.pur h).1, inO.mpr ⟨(r.wd.pur h).2.1, (e3 h).1.symm⟩, inO.mpr ⟨(r.wd.pur h).2.2, (e3 h).2.symm⟩⟩, r.wd.exl⟩, by rw [List.length_set, r.len], fun j y ej => ?_, fun j k xs ys n g1 g2 => ?_, fun j zs ej => ?_⟩, ⟨rfl, rfl, rfl, rfl, ky⟩⟩
  rotate_right
  · rcases set_get ej with ⟨_, z, _⟩ | ⟨_, ej⟩
    · cases z
    · exact r.tg j zs ej
  · rcases set_get ej with ⟨rfl, rfl, _⟩ | ⟨n, ej⟩
    · exact ⟨_, e1, .lst (by rw [hidL_at fun z => (inO.mp z).2 rfl]; exact e4) (e5.ky ky)⟩
    · have h := r.sl j y ej
      cases y with
      | no => trivial
      | d x =>
        obtain ⟨v, g1, g2⟩ := h
        exact ⟨v, g1, g2.ky ky⟩
      | own zs =>
        obtain ⟨g1, g2, g3, us', g4, g5⟩ := h
        exact ⟨g1, inO.mpr ⟨g2, r.inj j i _ _ n ej e⟩, g3, us', g4, g5.ky ky⟩
      | pur => exact h
      | exc C =>
        obtain ⟨a, g1, g2⟩ := h
        exact ⟨a, g1, ky _ _ (fun _ z => nomatch z) g2⟩
      | tr t =>
        obtain ⟨v, as, g1, g2, g3, g4⟩ := h
        refine ⟨v, as, g1, TrOk.step ky t v as (fun a ha => rfl) g2, g3, fun a ha => ⟨inO.mpr ⟨(g4 a ha).1, fun z => ?_⟩, (g4 a ha).2⟩⟩
        have := (g4 a ha).2.2
        rw [z, r.tg i xs e] at this
        omega
  · rcases set_get g1 with ⟨_, z, _⟩ | ⟨_, g1⟩
    · cases z
    · rcases set_get g2 with ⟨_, z, _⟩ | ⟨_, g2⟩
      · cases z
      · exact r.inj j k xs ys n g1 g2
end
/-! ### blocks -/
section
variable {X : Cx} {D : DC} {st : Stmt} {rest sts : List Stmt} {g g1 g2 : DS} {e : Expr} {f : DE} {pos : Pos}
def dNext : DS := fun E T D => D.nx E T
def dSeq (g1 g2 : DS) : DS := fun E T D => g1 E T { D with nx := fun E' T' => g2 E' T' D }
theorem pssd_nil : PSsd X D [] dNext := PSs.imp pss_nil fun Dn σ H ⟨w, E, T, Dh, R, hg, l⟩ => l.nx w E T σ H .refl R hg
theorem pssd_one (h : PSd X D st g) : PSsd X D [st] g := pss_one h
theorem pssd_cons (h1 : PSd X D st g1) (h2 : PSsd X D rest g2) : PSsd X D (st :: rest) (dSeq g1 g2) := PSs.imp (pss_cons h1 h2) fun Dn σ H ⟨w, E, T, Dh, R, hg, l⟩ =>
  ⟨w, E, T, _, R, hg, fun w' E' T' σ' H' x R' n => ⟨w', E', T', Dh, R', n, l.ext x⟩, l.rt, l.bk, l.ct⟩
def dRet (f : DE) : DS := fun E T D => f E T fun x T' => D.rt (.d x) T'
theorem psd_ret (h : PD X D e f) : PSd X D (.Return (some e) pos) (dRet f) := PS.imp (ps_ret h) fun Dn σ H ⟨w, E, T, Dh, R, hg, l⟩ => ⟨w, E, T, _, R, hg, fun x T' v H' s d hx => l.rt w T' (.d x) v H' s.ext (R.step s).wd d hx⟩
def dRetN : DS := fun E T D => D.rt (.d .none) T
theorem psd_retN : PSd X D (.Return none pos) dRetN := PS.imp ps_retN fun Dn σ H ⟨w, E, T, Dh, R, hg, l⟩ => l.rt w T (.d .none) .non H .refl R.wd .non hg
/-- the list of slot i is handed out -/
def dRetO (i : Nat) : DS := fun E T D => match E[i]? with
  | some (.own xs) => D.rt (.own xs) T
  | _ => False
theorem psd_retO {i : Nat} {x : Str} {p : Pos} (h : PE X (.Name x p) (tVar i)) : PSd X D (.Return (some (.Name x p)) pos) (dRetO i) := PS.imp (ps_ret h) fun Dn σ H ⟨w, E, T, Dh, R, hg, l⟩ => by
  unfold dRetO at hg
  split at hg
  · rename_i xs e
    obtain ⟨e1, e2, e3, us, e4, e5⟩ := R.sl i _ e
    exact ⟨_, e1, l.rt w T (.own xs) _ H .refl R.wd ⟨_, us, rfl, e2, e3, e4, e5⟩ hg⟩
  · exact hg.elim
def dExpr (f : DE) : DS := fun E T D => f E T fun _ T' => D.nx E T'
theorem psd_expr (h : PD X D e f) (hs : swapsWith e none pos.line X.env = pure false := by rfl) : PSd X D (.Expr e pos) (dExpr f) := PS.imp (ps_expr h hs) fun Dn σ H ⟨w, E, T, Dh, R, hg, l⟩ => ⟨w, E, T, _, R, hg, fun x T' v H' s d hx => l.nx w E T' σ H' s.ext (R.step s) hx⟩
def dIfS (t : DT) (g1 g2 : DS) : DS := fun E T D => t E T fun b T' => if b = true then g1 E T' D else g2 E T' D
theorem psd_if {c : Expr} {a b : List Stmt} {t : DT} (hc : PTd X D c t) (ha : PSsd X D a g1) (hb : PSsd X D b g2) : PSd X D (.If c a b pos) (dIfS t g1 g2) := PS.imp (ps_if hc ha hb) fun Dn σ H ⟨w, E, T, Dh, R, hg, l⟩ => ⟨w, E, T, _, R, hg, fun b T' H' s hx => by
  cases b with
  | true => exact ⟨w, E, T', Dh, R.step s, hx, l.ext s.ext⟩
  | false => exact ⟨w, E, T', Dh, R.step s, hx, l.ext s.ext⟩⟩
def dSet (i : Nat) (f : DE) : DS := fun E T D => f E T fun x T' => D.nx (E.set i (.d x)) T'
theorem psd_set {i : Nat} {x : Str} {pos' : Pos} (hN : X.N.Nodup) (hi : X.N[i]? = some x) (hx : Loc X.env.scope x) (h : PD X D e f) (hs : swapsWith e (some (.Name x pos')) pos.line X.env = pure false := by rfl) (hf : X.fn x = true ∨ X.env.scope.names.lookup x = some .local := by first | exact .inl rfl | exact .inr rfl | assumption) :
    PSd X D (.Assign [.Name x pos'] e pos) (dSet i f) := PS.imp (ps_set hN hi hx h hs hf) fun Dn σ H ⟨w, E, T, Dh, R, hg, l⟩ => ⟨w, E, T, _, R, hg, fun x T' v H' s d hx => l.nx w _ T' _ H' s.ext ((R.step s).set d) hx⟩
def dBreak : DS := fun E T D => D.bk E T
def dCont : DS := fun E T D => D.ct E T
theorem psd_break : PSd X D (.Break pos) dBreak := PS.imp ps_break fun Dn σ H ⟨w, E, T, Dh, R, hg, l⟩ => l.bk w E T σ H .refl R hg
theorem psd_continue : PSd X D (.Continue pos) dCont := PS.imp ps_continue fun Dn σ H ⟨w, E, T, Dh, R, hg, l⟩ => l.ct w E T σ H .refl R hg
theorem psd_pass : PSd X D (.Pass pos) dNext := PS.imp ps_pass fun Dn σ H ⟨w, E, T, Dh, R, hg, l⟩ => l.nx w E T σ H .refl R hg
/-- own lists become data ahead of a block -/
def relE (i : Nat) (E : Env') : Env' := match E[i]? with
  | some (.own xs) => E.set i (.d (.list xs))
  | _ => E
def dRel (i : Nat) (g : DS) : DS := fun E T D => g (relE i E) T D
theorem pssd_rel (i : Nat) (h : PSsd X D sts g) : PSsd X D sts (dRel i g) := PSs.imp h fun Dn σ H ⟨w, E, T, Dh, R, hg, l⟩ => by
  unfold dRel relE at hg
  split at hg
  · rename_i xs e
    obtain ⟨R2, x⟩ := R.rel e
    exact ⟨_, _, T, Dh, R2, hg, l.ext x⟩
  · exact ⟨w, E, T, Dh, R, hg, l⟩
/-! ### own lists -/
abbrev DOE := Env' → Nat → (List PyData → Nat → Prop) → Prop
def tO (K : PySem.W.Frag) (D : DC) (f : DOE) : TE := fun σ H Q => ∃ w E T Qh, Rp K D w E T σ H ∧ f E T Qh ∧ ∀ xs T' l vs H', StpO w T H T' H' l vs → DfAll K (hidL (l :: w.O) H') vs xs → Qh xs T' → Q (.ref l) H'
def PDo (X : Cx) (D : DC) (e : Expr) (f : DOE) : Prop := PE X e (tO X.K D f)
def dO (f : DOE) : DE := fun E T Q => f E T fun xs T' => Q (.list xs) T'
theorem PDo.d {f : DOE} (h : PDo X D e f) : PD X D e (dO f) := PE.imp h fun σ H Q ⟨w, E, T, Qh, R, hf, q⟩ => ⟨w, E, T, _, R, hf, fun xs T' l vs H' s d hx => q _ T' _ H' s.stp (.lst (by rw [hidL_at s.new]; exact s.at_) (d.ky (Ky.of hidL_cons_le))) hx⟩
def dSetO (i : Nat) (f : DOE) : DS := fun E T D => f E T fun xs T' => D.nx (E.set i (.own xs)) T'
theorem psd_setO {i : Nat} {x : Str} {pos' : Pos} {f : DOE} (hN : X.N.Nodup) (hi : X.N[i]? = some x) (hx : Loc X.env.scope x) (h : PDo X D e f) (hs : swapsWith e (some (.Name x pos')) pos.line X.env = pure false := by rfl) (hf : X.fn x = true ∨ X.env.scope.names.lookup x = some .local := by first | exact .inl rfl | exact .inr rfl | assumption) :
    PSd X D (.Assign [.Name x pos'] e pos) (dSetO i f) := PS.imp (ps_set hN hi hx h hs hf) fun Dn σ H ⟨w, E, T, Dh, R, hg, l⟩ => ⟨w, E, T, _, R, hg, fun xs T' l' vs H' s d hx => l.nx _ _ T' _ H' s.ext (R.setO s d) hx⟩
def dRetOE (f : DOE) : DS := fun E T D => f E T fun xs T' => D.rt (.own xs) T'
theorem psd_retOE {f : DOE} (h : PDo X D e f) : PSd X D (.Return (some e) pos) (dRetOE f) := PS.imp (ps_ret h) fun Dn σ H ⟨w, E, T, Dh, R, hg, l⟩ => ⟨w, E, T, _, R, hg, fun xs T' l' vs H' s d hx => by
  have R2 := R.setO (i := E.length) s d
  exact l.rt (w.grow E.length l') T' (.own xs) _ H' s.ext ⟨R2.wd.ky, R2.wd.tab, R2.wd.lst, R2.wd.pur, R2.wd.exl⟩ ⟨l', vs, rfl, List.mem_cons_self, s.off, s.at_, d⟩ hx⟩
/-- x.append(e), x an own list -/
def dApp (i : Nat) (f : DE) : DS := fun E T D => match E[i]? with
  | some (.own xs) => f E T fun x T' => xs.length < 1000000 ∧ D.nx (E.set i (.own (xs ++ [x]))) T'
  | _ => False
theorem lim_lt {n : Nat} (h : n < 1000000) : n < sizeLine := Nat.lt_of_lt_of_le h lim_line
theorem psd_app {i : Nat} {x : Str} {p1 ap cp : Pos} (hb : PE X (.Call (.Attribute (.Name x p1) "append" ap) [e] [] cp) (tBM X.K "list" rAppend (tVar i) (tCons (tD X.K D f) tNil)))
    (hs : swapsWith (.Call (.Attribute (.Name x p1) "append" ap) [e] [] cp) none pos.line X.env = pure false := by rfl) : PSd X D (.Expr (.Call (.Attribute (.Name x p1) "append" ap) [e] [] cp) pos) (dApp i f) := PS.imp (ps_expr hb hs) fun Dn σ H ⟨w, E, T, Dh, R, hg, l⟩ => by
  unfold dApp at hg
  split at hg
  · rename_i xs e
    obtain ⟨e1, e2, e3, us, e4, e5⟩ := R.sl i _ e
    refine ⟨_, e1, .inl ⟨rfl, _, SqL.of e4⟩, w, E, T, _, R, hg, fun x T' v H' s d hx => ?_⟩
    have R2 := R.step s
    obtain ⟨_, _, _, us2, g4, g5⟩ := R2.sl i _ e
    have e6 : us2 = us := by
      have h1 := s.same _ e2 e3
      rw [g4, e4] at h1
      cases h1
      rfl
    subst e6
    obtain ⟨R3, x3⟩ := R2.upd e (g5.append (.cons d .nil))
    exact ⟨_, _, _, rfl, rfl, g4, lim_lt (by rw [g5.len]; exact hx.1), l.nx w _ T' _ _ (s.ext.trans x3) R3 hx.2⟩
  · exact hg.elim
end
end Dv
set_option Elab.async false
set_option linter.all false
set_option maxRecDepth 100000
set_option maxHeartbeats 4000000
namespace Dv
open PySem PySem.Spec PyProof.Rows L2
/-! ### operations by data -/
section
variable {X : Cx}
theorem OpR.or {f : Value → Value → Sem Value} {r r' : R2} (h : OpR X f r) (h' : OpR X f r') : OpR X f (fun x y H Q => r x y H Q ∨ r' x y H Q) := by
  intro pins s σ H x y v u Q I rx ry q
  rcases q with q | q
  · exact h pins s σ H x y v u Q I rx ry q
  · exact h' pins s σ H x y v u Q I rx ry q
theorem strOk_iff {x : Str} : PyData.strOk x = true ↔ ∀ c ∈ x.cps.toList, c < 0x110000 := by
  unfold PyData.strOk
  rw [← Array.all_toList, List.all_eq_true]
  exact ⟨fun h c hc => of_decide_eq_true (h c hc), fun h c hc => decide_eq_true (h c hc)⟩
theorem sOk_of {x : Str} (h : ∀ c ∈ x.cps.toList, c < 0x110000) (l : x.length ≤ 1000000) : sOk x = true := by
  unfold sOk
  rw [strOk_iff.mpr h, decide_eq_true l]
  rfl
theorem sOk.sign {x : Str} (h : sOk x = true) : ∀ c ∈ x.cps.toList, c < 0x110000 := strOk_iff.mp (sOk.ok h)
theorem sOk_append {a b : Str} (ha : sOk a = true) (hb : sOk b = true) (l : a.length + b.length ≤ 1000000) : sOk (a ++ b) = true := by
  refine sOk_of (fun c hc => ?_) (by rw [Str.length_append]; exact l)
  rw [Str.cps_append, Array.toList_append] at hc
  rcases List.mem_append.mp hc with hc | hc
  · exact sOk.sign ha c hc
  · exact sOk.sign hb c hc
theorem sOk_one {c : Nat} (h : c < 0x110000) : sOk ⟨#[c]⟩ = true := sOk_of (fun d hd => by
  have : d = c := by simpa using hd
  rw [this]
  exact h) (by show 1 ≤ 1000000; decide)
theorem sOk_sub {a b : Str} (ha : sOk a = true) (h : ∀ c ∈ b.cps.toList, c ∈ a.cps.toList) (l : b.length ≤ a.length) : sOk b = true := sOk_of (fun c hc => sOk.sign ha c (h c hc)) (Nat.le_trans l (sOk.len ha))
def addD : DO
  | .int i, .int j => some (.int (i + j))
  | .str a, .str b => if a.length + b.length ≤ 1000000 then some (.str (a ++ b)) else none
  | .list a, .list b => if a.length + b.length ≤ 1000000 then some (.list (a ++ b)) else none
  | .tuple a, .tuple b => if a.length + b.length ≤ 1000000 then some (.tuple (a ++ b)) else none
  | _, _ => none
theorem df_new {K : PySem.W.Frag} {w : Wst} {H : Hp} {p : Addr} {vs : List V} {ds : List PyData} (hO : ∀ a ∈ w.O, ∃ xs, H a = some (.lst xs)) (n : H p = none) (d : DfAll K (hidL w.O H) vs ds) : Df K (hidL w.O (upd H p (.lst vs))) (.ref p) (.list ds) := by
  have hp : p ∉ w.O := fun z => by
    obtain ⟨xs, e⟩ := hO p z
    rw [n] at e
    cases e
  exact .lst (by rw [hidL_at hp, upd_same]) (d.ky (Ky.of (hidL_same (same_upd n))))
theorem df_newT {K : PySem.W.Frag} {w : Wst} {H H' : Hp} {p : Addr} {vs : List V} {ds : List PyData} (hO : ∀ a ∈ w.O, ∃ xs, H a = some (.lst xs)) (s : Same H H') (t : Tz K H' p vs) (d : DfAll K (hidL w.O H) vs ds) : Df K (hidL w.O H') (.ref p) (.tuple ds) := by
  refine .tup ?_ (d.ky (Ky.of (hidL_same s)))
  rcases t with ⟨o, e, z⟩ | t
  · refine .inl ⟨o, ?_, z⟩
    rw [hidL_at fun y => ?_]
    · exact e
    · obtain ⟨xs, e2⟩ := hO p y
      rw [s _ _ e2] at e
      cases e
  · exact .inr t
theorem opd_add : OpD X (binaryOp .Add) addD := by
  refine ⟨_, OpR.or op_add (OpR.or op_add_str (OpR.or op_cat op_catF)), fun w H v u x y z Q hO dx dy e q => ?_⟩
  unfold addD at e
  split at e
  · cases e
    exact .inl ⟨_, _, dk_int dx, dk_int dy, q _ H (Same.refl _) (.int _)⟩
  · split at e
    · rename_i l
      cases e
      obtain ⟨rfl, k1⟩ := dk_str dx
      obtain ⟨rfl, k2⟩ := dk_str dy
      exact .inr (.inl ⟨_, _, rfl, rfl, Nat.le_trans l lim_line, q _ H (Same.refl _) (.str _ (sOk_append k1 k2 l))⟩)
    · cases e
  · split at e
    · rename_i l
      cases e
      obtain ⟨a, vs, rfl, e1, d1⟩ := dk_list dx
      obtain ⟨b, us, rfl, e2, d2⟩ := dk_list dy
      exact .inr (.inr (.inl ⟨a, b, vs, us, rfl, rfl, e1, e2, by rw [d1.len, d2.len]; exact Nat.le_trans l lim_line, fun p n => q _ _ (same_upd n) (df_new hO n (d1.append d2))⟩))
    · cases e
  · split at e
    · rename_i l
      cases e
      obtain ⟨a, vs, rfl, e1, d1⟩ := dk_tup dx
      obtain ⟨b, us, rfl, e2, d2⟩ := dk_tup dy
      exact .inr (.inr (.inr ⟨a, b, vs, us, rfl, rfl, tz_up e1, tz_up e2, by rw [d1.len, d2.len]; exact Nat.le_trans l lim_line, fun H' p s t => q _ _ s (df_newT hO s t (d1.append d2))⟩))
    · cases e
  · cases e
def subD : DO
  | .int i, .int j => some (.int (i - j))
  | _, _ => none
theorem opd_sub : OpD X (binaryOp .Sub) subD := by
  refine ⟨_, op_sub, fun w H v u x y z Q hO dx dy e q => ?_⟩
  unfold subD at e
  split at e
  · cases e
    exact ⟨_, _, dk_int dx, dk_int dy, q _ H (Same.refl _) (.int _)⟩
  · cases e
/-- not too many figures -/
def wI (i : Int) : Bool := decide (i.natAbs.log2 < 400000)
def mulD : DO
  | .int i, .int j => if (wI i && wI j) = true then some (.int (i * j)) else none
  | .list a, .int k => if (decide (0 ≤ k ∧ k ≤ 1000) && decide (a.length ≤ 1000)) = true then some (.list (List.replicate k.toNat a).flatten) else none
  | .tuple a, .int k => if (decide (0 ≤ k ∧ k ≤ 1000) && decide (a.length ≤ 1000)) = true then some (.tuple (List.replicate k.toNat a).flatten) else none
  | _, _ => none
def rRepF (K : PySem.W.Frag) : R2 := fun x y H Q => ∃ l k xs, x = .ref l ∧ y = .int k ∧ Tz K H l xs ∧ 0 ≤ k ∧ k ≤ 1000 ∧ xs.length ≤ 1000 ∧ ∀ H' p, Same H H' → Tz K H' p (List.replicate k.toNat xs).flatten → Q (.ref p) H'
theorem op_repF : OpR X (binaryOp .Mult) (rRepF X.K) := by
  intro pins s σ H x y v u Q I rx ry h
  obtain ⟨l, k, xs, rfl, rfl, hT, k0, k1, hz, q⟩ := h
  cases rx
  obtain ⟨t, rfl⟩ := ry
  obtain ⟨its, r, ⟨⟨cls, dd, data, sl⟩, ho, hc, n, hd⟩, hs⟩ := I.tuple hT.sq
  simp only at hc hd
  subst hc hd
  have hle : its.length = xs.length := r.length.symm
  have c0 : (decide (k < -(2 ^ 63)) || decide (k ≥ 2 ^ 63)) = false := by
    rw [decide_eq_false (by omega), decide_eq_false (by omega)] <;> rfl
  refine wpAny_binaryOp_repeat_ref (T := "tuple") (U := "int") (by decide) ⟨_, ho, rfl⟩ (fun s' => typeIs_int s' k t) noFill_tuple_mul F.fills_int_mul F.slot_int_rmul repeat_tuple F.slot_int_index.lookup
    (call_meets F.slot_int_rmul (typeIs_int s k t) F.entry_int_rmul (F.args_int_rmul_2 _ _) (int_rmul_tuple k t l its.toArray n dd sl)
      ⟨ho, rfl, ⟨_, ho, rfl⟩, ?_⟩)
  cases c1 : (its.toArray.isEmpty || k == 1) with
  | true =>
    refine call_meets F.slot_tuple_mul ⟨_, ho, rfl⟩ F.entry_tuple_mul (F.args_tuple_mul_2 _ _) (tuple_mul1 l its.toArray n dd sl t k c0 c1) ⟨ho, .ref l, H, I, rfl, q H l (Same.refl _) ?_⟩
    rw [Bool.or_eq_true] at c1
    have e : (List.replicate k.toNat xs).flatten = xs := by
      rcases c1 with c1 | c1
      · have : xs = [] := by
          cases its with
          | nil => exact List.eq_nil_of_length_eq_zero hle.symm
          | cons a b => simp at c1
        rw [this]
        induction k.toNat with
        | zero => rfl
        | succ m ih => rw [List.replicate_succ, List.flatten_cons, ih]; rfl
      · have : k = 1 := eq_of_beq c1
        rw [this]
        show (List.replicate 1 xs).flatten = xs
        simp
    rw [e]
    exact hT
  | false =>
    have hne : its.toArray.isEmpty = false ∧ k ≠ 1 := by
      rw [Bool.or_eq_false_iff] at c1
      exact ⟨c1.1, fun z => by rw [z] at c1; exact absurd c1.2 (by decide)⟩
    by_cases k2 : k = 0
    · have c2 : (decide (k ≤ 0) || its.toArray.isEmpty) = true := by
        rw [decide_eq_true (by omega)]
        rfl
      refine call_meets F.slot_tuple_mul ⟨_, ho, rfl⟩ F.entry_tuple_mul (F.args_tuple_mul_2 _ _) (tuple_mul0 l its.toArray n dd sl t k c0 c1 c2) ⟨ho, ?_⟩
      exact ⟨.ref s.heap.objs.size, _, new_tup (its := []) I .nil (Nat.zero_le _), rfl, q _ _ (same_upd (I.hok.fresh (Nat.le_refl _))) (by rw [k2]; exact tz_new (o := tupO []) rfl)⟩
    · have hsz0 : its.toArray.size = xs.length := by rw [List.size_toArray, hle]
      have hm : ((its.toArray.size : Nat) : Int) * k ≤ 1000000 := by
        rw [hsz0]
        have a1 : ((xs.length : Nat) : Int) * k ≤ 1000 * k := Int.mul_le_mul_of_nonneg_right (by omega) (by omega)
        omega
      have fl0 : k.toNat * xs.length ≤ 1000 * 1000 := Nat.mul_le_mul (by omega) hz
      have c2 : (decide (k ≤ 0) || its.toArray.isEmpty) = false := by
        rw [hne.1, Bool.or_false]
        exact decide_eq_false (by omega)
      have c4 : Builtin.Tuple.tupleTooMany (((its.toArray.size : Nat) : Int) * k) = false := by
        unfold Builtin.Tuple.tupleTooMany
        rw [sizeLine_eq]
        exact decide_eq_false (by omega)
      have flen : (List.replicate k.toNat its).flatten.length ≤ sizeLine := by
        rw [PyProof.Rows.lm_len_rep_flat, hle, sizeLine_eq]
        omega
      refine call_meets F.slot_tuple_mul ⟨_, ho, rfl⟩ F.entry_tuple_mul (F.args_tuple_mul_2 _ _) (tuple_mulW l its.toArray n dd sl k t c0 c1 c2 (by omega) c4 (by rw [size_rep, List.size_toArray]; exact flen)) ⟨ho, ?_⟩
      rw [size_rep]
      exact ⟨.ref s.heap.objs.size, _, new_tup I (r.rep k.toNat) (by rw [PyProof.Rows.lm_len_rep_flat, sizeLine_eq]; omega), rfl, q _ _ (same_upd (I.hok.fresh (Nat.le_refl _))) (tz_new (o := tupO _) rfl)⟩
theorem opd_mul : OpD X (binaryOp .Mult) mulD := by
  refine ⟨_, OpR.or op_mulW (OpR.or op_rep op_repF), fun w H v u x y z Q hO dx dy e q => ?_⟩
  unfold mulD at e
  split at e
  · split at e
    · rename_i l
      cases e
      rw [Bool.and_eq_true] at l
      have l1 := of_decide_eq_true l.1
      have l2 := of_decide_eq_true l.2
      exact .inl ⟨_, _, dk_int dx, dk_int dy, by unfold CMulW; omega, q _ H (Same.refl _) (.int _)⟩
    · cases e
  · split at e
    · rename_i l
      cases e
      rw [Bool.and_eq_true, decide_eq_true_iff, decide_eq_true_iff] at l
      obtain ⟨a, vs, rfl, e1, d1⟩ := dk_list dx
      rename_i a0 k
      have hm : vs.length * k.toNat ≤ 1000 * 1000 := Nat.mul_le_mul (by rw [d1.len]; exact l.2) (by omega)
      exact .inr (.inl ⟨a, k, vs, rfl, dk_int dy, e1, by omega, by omega, Nat.le_trans hm lim_line, fun p n => q _ _ (same_upd n) (df_new hO n (d1.rep _))⟩)
    · cases e
  · split at e
    · rename_i l
      cases e
      rw [Bool.and_eq_true, decide_eq_true_iff, decide_eq_true_iff] at l
      obtain ⟨a, vs, rfl, e1, d1⟩ := dk_tup dx
      exact .inr (.inr ⟨a, _, vs, rfl, dk_int dy, tz_up e1, l.1.1, l.1.2, by rw [d1.len]; exact l.2, fun H' p s t => q _ _ s (df_newT hO s t (d1.rep _))⟩)
    · cases e
  · cases e
def modD : DO
  | .int i, .int j => if 0 < j then some (.int (i % j)) else if j < 0 then some (.int (i.fmod j)) else none
  | _, _ => none
theorem opd_mod : OpD X (binaryOp .Mod) modD := by
  refine ⟨_, OpR.or op_mod op_modN, fun w H v u x y z Q hO dx dy e q => ?_⟩
  unfold modD at e
  split at e
  · split at e
    · rename_i l
      cases e
      exact .inl ⟨_, _, dk_int dx, dk_int dy, l, q _ H (Same.refl _) (.int _)⟩
    · split at e
      · rename_i l
        cases e
        exact .inr ⟨_, _, dk_int dx, dk_int dy, by omega, q _ H (Same.refl _) (.int _)⟩
      · cases e
  · cases e
def fdivD : DO
  | .int i, .int j => if 0 < j ∧ j.natAbs.log2 < 9000 then some (.int (i / j)) else none
  | _, _ => none
theorem opd_fdiv : OpD X (binaryOp .FloorDiv) fdivD := by
  refine ⟨_, op_fdivW, fun w H v u x y z Q hO dx dy e q => ?_⟩
  unfold fdivD at e
  split at e
  · split at e
    · rename_i l
      cases e
      exact ⟨_, _, dk_int dx, dk_int dy, l, q _ H (Same.refl _) (.int _)⟩
    · cases e
  · cases e
def powD : DO
  | .int i, .int j => if 0 ≤ j ∧ j ≤ 1000000 ∧ i.natAbs < 2 ^ 64 then some (.int (i ^ j.toNat)) else none
  | _, _ => none
theorem opd_pow : OpD X (binaryOp .Pow) powD := by
  refine ⟨_, op_pow, fun w H v u x y z Q hO dx dy e q => ?_⟩
  unfold powD at e
  split at e
  · split at e
    · rename_i l
      cases e
      exact ⟨_, _, dk_int dx, dk_int dy, l, q _ H (Same.refl _) (.int _)⟩
    · cases e
  · cases e
/-! comparisons -/
def eqD : DO := fun x y => if x.depth ≤ 64 ∧ y.depth ≤ 64 then some (.bool (PyData.eqv x y)) else none
def neD : DO := fun x y => if x.depth ≤ 64 ∧ y.depth ≤ 64 then some (.bool (!PyData.eqv x y)) else none
theorem opd_eq (hu : X.A.units + 64 < cLine) : OpD X (compareOp .Eq) eqD := by
  refine ⟨_, op_eqD hu, fun w H v u x y z Q hO dx dy e q => ?_⟩
  unfold eqD at e
  split at e
  · rename_i l
    cases e
    exact ⟨x, y, dx.dp, dy.dp, dx.df.shaped l.1, dy.df.shaped l.2, q _ H (Same.refl _) (.bl _)⟩
  · cases e
theorem opd_ne (hu : X.A.units + 64 < cLine) : OpD X (compareOp .NotEq) neD := by
  refine ⟨_, op_neD hu, fun w H v u x y z Q hO dx dy e q => ?_⟩
  unfold neD at e
  split at e
  · rename_i l
    cases e
    exact ⟨x, y, dx.dp, dy.dp, dx.df.shaped l.1, dy.df.shaped l.2, q _ H (Same.refl _) (.bl _)⟩
  · cases e
def ltD : DO
  | .int i, .int j => some (.bool (decide (i < j)))
  | .str a, .str b => some (.bool (decide (a.cps.toList < b.cps.toList)))
  | _, _ => none
def leD : DO
  | .int i, .int j => some (.bool (decide (i ≤ j)))
  | .str a, .str b => some (.bool (!decide (b.cps.toList < a.cps.toList)))
  | _, _ => none
def gtD : DO
  | .int i, .int j => some (.bool (decide (j < i)))
  | .str a, .str b => some (.bool (decide (b.cps.toList < a.cps.toList)))
  | _, _ => none
def geD : DO
  | .int i, .int j => some (.bool (decide (j ≤ i)))
  | .str a, .str b => some (.bool (!decide (a.cps.toList < b.cps.toList)))
  | _, _ => none
theorem opd_lt : OpD X (compareOp .Lt) ltD := by
  refine ⟨_, OpR.or op_lt op_lt_str, fun w H v u x y z Q hO dx dy e q => ?_⟩
  unfold ltD at e
  split at e
  · cases e
    exact .inl ⟨_, _, dk_int dx, dk_int dy, q _ H (Same.refl _) (.bl _)⟩
  · cases e
    exact .inr ⟨_, _, (dk_str dx).1, (dk_str dy).1, q _ H (Same.refl _) (.bl _)⟩
  · cases e
theorem opd_le : OpD X (compareOp .LtE) leD := by
  refine ⟨_, OpR.or op_le op_le_str, fun w H v u x y z Q hO dx dy e q => ?_⟩
  unfold leD at e
  split at e
  · cases e
    exact .inl ⟨_, _, dk_int dx, dk_int dy, q _ H (Same.refl _) (.bl _)⟩
  · cases e
    exact .inr ⟨_, _, (dk_str dx).1, (dk_str dy).1, q _ H (Same.refl _) (.bl _)⟩
  · cases e
theorem opd_gt : OpD X (compareOp .Gt) gtD := by
  refine ⟨_, OpR.or op_gt op_gt_str, fun w H v u x y z Q hO dx dy e q => ?_⟩
  unfold gtD at e
  split at e
  · cases e
    exact .inl ⟨_, _, dk_int dx, dk_int dy, q _ H (Same.refl _) (.bl _)⟩
  · cases e
    exact .inr ⟨_, _, (dk_str dx).1, (dk_str dy).1, q _ H (Same.refl _) (.bl _)⟩
  · cases e
theorem opd_ge : OpD X (compareOp .GtE) geD := by
  refine ⟨_, OpR.or op_ge op_ge_str, fun w H v u x y z Q hO dx dy e q => ?_⟩
  unfold geD at e
  split at e
  · cases e
    exact .inl ⟨_, _, dk_int dx, dk_int dy, q _ H (Same.refl _) (.bl _)⟩
  · cases e
    exact .inr ⟨_, _, (dk_str dx).1, (dk_str dy).1, q _ H (Same.refl _) (.bl _)⟩
  · cases e
def isN : PyData → Bool
  | .none => true
  | _ => false
theorem isN_v {K : PySem.W.Frag} {w : Wst} {H : Hp} {v : V} {x : PyData} (h : Dk K w H v x) : decide (v = V.non) = isN x := by
  cases x with
  | none => rw [dk_non h]; rfl
  | bool b => rw [dk_bl h]; exact decide_eq_false fun z => nomatch z
  | int i => rw [dk_int h]; exact decide_eq_false fun z => nomatch z
  | str z => rw [(dk_str h).1]; exact decide_eq_false fun z => nomatch z
  | list ds =>
    obtain ⟨_, _, rfl, _⟩ := dk_list h
    exact decide_eq_false fun z => nomatch z
  | tuple ds =>
    obtain ⟨_, _, rfl, _⟩ := dk_tup h
    exact decide_eq_false fun z => nomatch z
  | dict _ => exact (dk_dict h).elim
def isD : DO
  | x, .none => some (.bool (isN x))
  | _, _ => none
def isntD : DO
  | x, .none => some (.bool (!isN x))
  | _, _ => none
theorem opd_is : OpD X (compareOp .Is) isD := by
  refine ⟨_, op_isN, fun w H v u x y z Q hO dx dy e q => ?_⟩
  unfold isD at e
  split at e
  · cases e
    exact ⟨dk_non dy, by rw [isN_v dx]; exact q _ H (Same.refl _) (.bl _)⟩
  · cases e
theorem opd_isnt : OpD X (compareOp .IsNot) isntD := by
  refine ⟨_, op_notN, fun w H v u x y z Q hO dx dy e q => ?_⟩
  unfold isntD at e
  split at e
  · cases e
    exact ⟨dk_non dy, by rw [isN_v dx]; exact q _ H (Same.refl _) (.bl _)⟩
  · cases e
def inB (d : PyData) (ds : List PyData) : Bool := ds.any fun y => PyData.eqv y d
def inStr (a b : Str) : Bool := !(Builtin.Str.occurrences b a 0 b.length 1).isEmpty
def inD (neg : Bool) : DO
  | x, .list ds => if x.depth ≤ 64 ∧ (PyData.list ds).depth ≤ 64 then some (.bool (if neg then !inB x ds else inB x ds)) else none
  | x, .tuple ds => if x.depth ≤ 60 then some (.bool (if neg then !inB x ds else inB x ds)) else none
  | .str a, .str b => some (.bool (if neg then !inStr a b else inStr a b))
  | _, _ => none
def rInTG (K : PySem.W.Frag) (neg : Bool) : R2 := fun x y H Q => ∃ d ds, Dp K H x d ∧ Dp K H y (.tuple ds) ∧ d.canLay0 = true ∧ PyData.canLayAll0 ds = true ∧ d.depth ≤ 60 ∧ Q (.bl (if neg then !inB d ds else inB d ds)) H
theorem op_inTG (hu : X.A.units + 64 < cLine) : OpR X (compareOp .In) (rInTG X.K false) := by
  intro pins s σ H x y v u Q I rx ry h
  obtain ⟨d, ds, hd, he, c1, c2, dp, q⟩ := h
  obtain ⟨as, r1⟩ := Dp.reads I d x v hd rx
  obtain ⟨bs, r2⟩ := Dp.reads I (.tuple ds) y u he ry
  exact SeqAt.in_tuple_reads r2 r1 c2 c1 (by have := Nat.min_le_right (PyData.depthAll ds) d.depth; omega) ⟨.bl _, H, I, rfl, q⟩
theorem op_notInTG (hu : X.A.units + 64 < cLine) : OpR X (compareOp .NotIn) (rInTG X.K true) := by
  intro pins s σ H x y v u Q I rx ry h
  obtain ⟨d, ds, hd, he, c1, c2, dp, q⟩ := h
  obtain ⟨as, r1⟩ := Dp.reads I d x v hd rx
  obtain ⟨bs, r2⟩ := Dp.reads I (.tuple ds) y u he ry
  exact SeqAt.notIn_tuple_reads r2 r1 c2 c1 (by have := Nat.min_le_right (PyData.depthAll ds) d.depth; omega) ⟨.bl _, H, I, rfl, q⟩
theorem opd_in (hu : X.A.units + 65 < cLine) : OpD X (compareOp .In) (inD false) := by
  refine ⟨_, OpR.or (op_inD hu) (OpR.or (op_inTG (by omega)) op_in_str), fun w H v u x y z Q hO dx dy e q => ?_⟩
  unfold inD at e
  split at e
  · split at e
    · rename_i l
      cases e
      exact .inl ⟨x, _, dx.dp, dy.dp, dx.df.shaped l.1, dy.df.shaped l.2, q _ H (Same.refl _) (.bl _)⟩
    · cases e
  · split at e
    · rename_i l
      cases e
      have := Df.can _ _ dy.df
      simp only [PyData.canLay0] at this
      exact .inr (.inl ⟨x, _, dx.dp, dy.dp, Df.can _ _ dx.df, this, l, q _ H (Same.refl _) (.bl _)⟩)
    · cases e
  · cases e
    exact .inr (.inr ⟨_, _, (dk_str dx).1, (dk_str dy).1, q _ H (Same.refl _) (.bl _)⟩)
  · cases e
theorem opd_notin (hu : X.A.units + 65 < cLine) : OpD X (compareOp .NotIn) (inD true) := by
  refine ⟨_, OpR.or (op_notInD hu) (OpR.or (op_notInTG (by omega)) op_notin_str), fun w H v u x y z Q hO dx dy e q => ?_⟩
  unfold inD at e
  split at e
  · split at e
    · rename_i l
      cases e
      exact .inl ⟨x, _, dx.dp, dy.dp, dx.df.shaped l.1, dy.df.shaped l.2, q _ H (Same.refl _) (.bl _)⟩
    · cases e
  · split at e
    · rename_i l
      cases e
      have := Df.can _ _ dy.df
      simp only [PyData.canLay0] at this
      exact .inr (.inl ⟨x, _, dx.dp, dy.dp, Df.can _ _ dx.df, this, l, q _ H (Same.refl _) (.bl _)⟩)
    · cases e
  · cases e
    exact .inr (.inr ⟨_, _, (dk_str dx).1, (dk_str dy).1, q _ H (Same.refl _) (.bl _)⟩)
  · cases e
end
/-! ### items, slices -/
section
variable {X : Cx} {D : DC} {a b e : Expr} {fa fb f : DE} {pos : Pos}
theorem at_all {K : PySem.W.Frag} {H : Hp} {vs : List V} {ds : List PyData} {i : Int} {d : PyData} (h : DfAll K H vs ds) (e : atI ds i = some d) : ∃ v, atI vs i = some v ∧ Df K H v d := by
  unfold atI at e ⊢
  rw [h.len]
  cases e2 : ixN ds.length i with
  | none =>
    rw [e2] at e
    cases e
  | some j =>
    rw [e2] at e
    exact h.getD e
theorem at_mem {α : Type} {xs : List α} {i : Int} {c : α} (h : atI xs i = some c) : c ∈ xs := by
  unfold atI at h
  cases e2 : ixN xs.length i with
  | none =>
    rw [e2] at h
    cases h
  | some j =>
    rw [e2] at h
    exact List.mem_of_getElem? h
def ixD : DO
  | .list ds, .int i => atI ds i
  | .tuple ds, .int i => atI ds i
  | .str z, .int i => (atI z.cps.toList i).map fun c => .str ⟨#[c]⟩
  | _, _ => none
theorem pd_ix (ha : PK X D a fa) (hb : PK X D b fb) (hs : PlainIx b) : PD X D (.Subscript a b pos) (dOp ixD fa fb) := by
  refine PE.imp (pe_ix ix_seq ha hb hs) fun σ H Q h => op_run (fun w H v u x y z Q hO dx dy e q => ?_) h
  unfold ixD at e
  split at e
  · obtain ⟨l, vs, rfl, e1, d1⟩ := dk_list dx
    obtain ⟨v, e2, d2⟩ := at_all d1 e
    exact .inl ⟨l, vs, _, v, rfl, dk_int dy, SqL.of e1, e2, q v H (Same.refl _) d2⟩
  · obtain ⟨l, vs, rfl, e1, d1⟩ := dk_tup dx
    obtain ⟨v, e2, d2⟩ := at_all d1 e
    exact .inr (.inl ⟨l, vs, _, v, rfl, dk_int dy, (tz_up e1).sq, e2, q v H (Same.refl _) d2⟩)
  · obtain ⟨rfl, k⟩ := dk_str dx
    rename_i z0 i0
    cases e3 : atI z0.cps.toList i0 with
    | none =>
      rw [e3] at e
      cases e
    | some c =>
      rw [e3] at e
      cases e
      exact .inr (.inr ⟨_, _, c, rfl, dk_int dy, sOk.line k, e3, q _ H (Same.refl _) (.str _ (sOk_one (sOk.sign k c (at_mem e3))))⟩)
  · cases e
def cutG {α : Type} (xs : List α) (lo hi : Option Int) : List α := (xs.drop (HT.sIx xs.length 0 lo)).take (HT.sIx xs.length xs.length hi - HT.sIx xs.length 0 lo)
theorem cut_all {K : PySem.W.Frag} {H : Hp} {vs : List V} {ds : List PyData} {lo hi : Option Int} (h : DfAll K H vs ds) : DfAll K H (cutV vs lo hi) (cutG ds lo hi) := by
  unfold cutV cutG
  rw [h.len]
  exact (h.drop _).take _
def cutD (x : PyData) (lo hi : Option Int) : Option PyData := match x with
  | .list ds => some (.list (cutG ds lo hi))
  | .tuple ds => some (.tuple (cutG ds lo hi))
  | .str z => some (.str (cutS z lo hi))
  | _ => none
abbrev DP := Env' → Nat → (Option Int → Nat → Prop) → Prop
def tPd (K : PySem.W.Frag) (D : DC) (f : DP) : TO := fun σ H Q => ∃ w E T Qh, Rp K D w E T σ H ∧ f E T Qh ∧ ∀ o T' H', Stp w T H T' H' → Qh o T' → Q o H'
def POd (X : Cx) (D : DC) (e : Option Expr) (f : DP) : Prop := PO X e (tPd X.K D f)
def dNoP : DP := fun _ T Q => Q none T
def dPart (f : DE) : DP := fun E T Q => f E T fun x T' => match x with
  | .int i => Q (some i) T'
  | _ => False
theorem PO.imp {o : Option Expr} {t t' : TO} (h : PO X o t) (i : ∀ σ H Q, t' σ H Q → t σ H Q) : PO X o t' := ⟨fun pins s σ H Q I q => h.run pins s σ H Q I (i σ H Q q)⟩
theorem pod_none : POd X D none dNoP := PO.imp po_none fun σ H Q ⟨w, E, T, Qh, R, hf, q⟩ => q none T H R.wd.refl hf
theorem pod_some (h : PD X D e f) : POd X D (some e) (dPart f) := PO.imp (po_some h) fun σ H Q ⟨w, E, T, Qh, R, hf, q⟩ => ⟨w, E, T, _, R, hf, fun x T' v H' s d hx => by
  cases x with
  | int i => exact ⟨i, df_int d, q _ T' H' s hx⟩
  | _ => exact hx.elim⟩
def dCut (f : DE) (lo hi : DP) : DE := fun E T Q => f E T fun x T1 => lo E T1 fun l T2 => hi E T2 fun h T3 => optQ (cutD x l h) T3 Q
variable {lo hi : Option Expr} {fl fh : DP} {p2 : Pos}
theorem sOk_cut {z : Str} {l h : Option Int} (k : sOk z = true) : sOk (cutS z l h) = true := by
  refine sOk_sub k (fun c hc => ?_) ?_
  · unfold cutS at hc
    exact List.mem_of_mem_drop (List.mem_of_mem_take (by simpa using hc))
  · show (cutS z l h).cps.size ≤ z.cps.size
    unfold cutS
    rw [List.size_toArray, List.length_take, List.length_drop, Array.length_toList]
    omega
theorem pd_cut (h : PK X D e f) (hl : POd X D lo fl) (hh : POd X D hi fh) : PD X D (.Subscript e (.Slice lo hi none p2) pos) (dCut f fl fh) := by
  refine PE.imp (pe_slice (SlR.or sl_list (SlR.or sl_tupF sl_str)) h hl hh) fun σ H Q ⟨w, E, T, Qh, R, hf, q⟩ => ⟨w, E, T, _, R, hf, fun x T1 v H1 s1 d1 h1 => ⟨w, E, T1, _, R.step s1, h1, fun l T2 H2 s2 h2 => ⟨w, E, T2, _, (R.step s1).step s2, h2, fun h T3 H3 s3 h3 => ?_⟩⟩⟩
  obtain ⟨z, e, h4⟩ := optQ_some h3
  have R3 := ((R.step s1).step s2).step s3
  have d3 := (d1.step s2).step s3
  have st := (s1.trans s2).trans s3
  unfold cutD at e
  split at e
  · cases e
    obtain ⟨a, vs, rfl, e1, d1⟩ := dk_list d3
    exact .inl ⟨a, vs, rfl, SqL.of e1, fun p n => q _ T3 _ _ (st.trans (R3.wd.stp (same_upd n))) (df_new R3.wd.lst n (cut_all d1)) h4⟩
  · cases e
    obtain ⟨a, vs, rfl, e1, d1⟩ := dk_tup d3
    exact .inr (.inl ⟨a, vs, rfl, tz_up e1, fun H' p s t => q _ T3 _ _ (st.trans (R3.wd.stp s)) (df_newT R3.wd.lst s t (cut_all d1)) h4⟩)
  · cases e
    obtain ⟨rfl, k⟩ := dk_str d3
    exact .inr (.inr ⟨_, rfl, sOk.line k, q _ T3 _ _ st (.str _ (sOk_cut k)) h4⟩)
  · cases e
end
end Dv
set_option Elab.async false
set_option linter.all false
set_option maxRecDepth 100000
set_option maxHeartbeats 4000000
namespace Dv
open PySem PySem.Spec PyProof.Rows L2
/-! ### displays -/
abbrev DXs := Env' → Nat → (List PyData → Nat → Prop) → Prop
def tX (K : PySem.W.Frag) (D : DC) (f : DXs) : TA := fun σ H Q => ∃ w E T Qh, Rp K D w E T σ H ∧ f E T Qh ∧ ∀ xs T' vs H', Stp w T H T' H' → DfAll K (hidL w.O H') vs xs → Qh xs T' → Q vs H'
def PXd (X : Cx) (D : DC) (es : List Expr) (f : DXs) : Prop := PA X es (tX X.K D f)
section
variable {X : Cx} {D : DC} {e a b : Expr} {es : List Expr} {f fa fb : DE} {g : DXs} {pos : Pos}
def xNil : DXs := fun _ T Q => Q [] T
def xCons (f : DE) (g : DXs) : DXs := fun E T Q => f E T fun x T1 => g E T1 fun xs T2 => Q (x :: xs) T2
theorem pxd_nil : PXd X D [] xNil := PA.imp pa_nil fun σ H Q ⟨w, E, T, Qh, R, hf, q⟩ => q [] T [] H R.wd.refl .nil hf
theorem pxd_cons (h : PD X D e f) (hg : PXd X D es g) (hs : starEach (e :: es) X.env = (false, eval e X.env) :: starEach es X.env := by rfl) : PXd X D (e :: es) (xCons f g) := PA.imp (pa_cons h hg hs) fun σ H Q ⟨w, E, T, Qh, R, hf, q⟩ =>
  ⟨w, E, T, _, R, hf, fun x T1 v H1 s1 d1 h1 => ⟨w, E, T1, _, R.step s1, h1, fun xs T2 vs H2 s2 d2 h2 => q (x :: xs) T2 (v :: vs) H2 (s1.trans s2) (.cons (d1.ky s2.ky) d2) h2⟩⟩
def dTup (g : DXs) : DE := fun E T Q => g E T fun xs T1 => xs.length ≤ 1000000 ∧ Q (.tuple xs) T1
theorem pd_tup {k} (h : PXd X D es g) : PD X D (.Tuple es k pos) (dTup g) := PE.imp (pe_tupF h) fun σ H Q ⟨w, E, T, Qh, R, hf, q⟩ =>
  ⟨w, E, T, _, R, hf, fun xs T1 vs H1 s1 d1 h1 => ⟨by rw [d1.len]; exact Nat.le_trans h1.1 lim_line, fun p o n d => q _ T1 _ _ (s1.trans ((R.step s1).wd.stp (same_upd n))) (df_newT (R.step s1).wd.lst (same_upd n) (tz_new d) d1) h1.2⟩⟩
theorem stpO_new {w : Wst} {T : Nat} {H : Hp} {p : Addr} {vs : List V} (d : Wd D w T H) (n : H p = none) : StpO w T H T (upd H p (.lst vs)) p vs := by
  have hp := d.new n
  refine ⟨hp, fun h => ⟨fun z => hp (z ▸ (d.pur h).2.1), fun z => hp (z ▸ (d.pur h).2.2)⟩, upd_same, ?_, fun a ha _ => upd_ne fun z => hp (z ▸ ha), fun h => (d.pur h).1.same (same_upd n)⟩
  rw [hidL_own hp n]
  exact Ky.refl
theorem dfAll_own {K : PySem.W.Frag} {w : Wst} {T : Nat} {H : Hp} {p : Addr} {vs us : List V} {xs : List PyData} (d : Wd D w T H) (n : H p = none) (h : DfAll K (hidL w.O H) us xs) : DfAll K (hidL (p :: w.O) (upd H p (.lst vs))) us xs := by
  rw [hidL_own (d.new n) n]
  exact h
theorem StpO.pre {w : Wst} {T T1 T2 : Nat} {H H1 H2 : Hp} {l : Addr} {vs : List V} (s : Stp w T H T1 H1) (x : StpO w T1 H1 T2 H2 l vs) : StpO w T H T2 H2 l vs := ⟨x.new, x.off, x.at_, s.ky.trans x.ky, fun a ha ho => (x.same a ha ho).trans (s.same a ha ho), x.pur⟩
def dLst (g : DXs) : DOE := fun E T Q => g E T fun xs T1 => xs.length ≤ 1000000 ∧ Q xs T1
theorem pdo_lst (h : PXd X D es g) : PDo X D (.List es pos) (dLst g) := PE.imp (pe_lst h) fun σ H Q ⟨w, E, T, Qh, R, hf, q⟩ =>
  ⟨w, E, T, _, R, hf, fun xs T1 vs H1 s1 d1 h1 => ⟨by rw [d1.len]; exact Nat.le_trans h1.1 lim_line, fun p n => q _ T1 _ vs _ (StpO.pre s1 (stpO_new (R.step s1).wd n)) (dfAll_own (R.step s1).wd n d1) h1.2⟩⟩
/-- a list plus a list, a list's slice, as our own -/
def dCatO (fa fb : DE) : DOE := fun E T Q => fa E T fun x T1 => fb E T1 fun y T2 => match x, y with
  | .list as, .list bs => as.length + bs.length ≤ 1000000 ∧ Q (as ++ bs) T2
  | _, _ => False
theorem pdo_cat (ha : PK X D a fa) (hb : PK X D b fb) : PDo X D (.BinOp a .Add b pos) (dCatO fa fb) := PE.imp (pe_op op_cat ha hb) fun σ H Q ⟨w, E, T, Qh, R, hf, q⟩ =>
  ⟨w, E, T, _, R, hf, fun x T1 v H1 s1 d1 h1 => ⟨w, E, T1, _, R.step s1, h1, fun y T2 u H2 s2 d2 h2 => by
    have R2 := (R.step s1).step s2
    split at h2
    · obtain ⟨la, va, rfl, ea, da⟩ := dk_list (d1.step s2)
      obtain ⟨lb, vb, rfl, eb, db⟩ := dk_list d2
      exact ⟨la, lb, va, vb, rfl, rfl, ea, eb, by rw [da.len, db.len]; exact Nat.le_trans h2.1 lim_line, fun p n => q _ T2 p _ _ (StpO.pre (s1.trans s2) (stpO_new R2.wd n)) (dfAll_own R2.wd n (da.append db)) h2.2⟩
    · exact h2.elim⟩⟩
def dCutO (f : DE) (lo hi : DP) : DOE := fun E T Q => f E T fun x T1 => lo E T1 fun l T2 => hi E T2 fun h T3 => match x with
  | .list ds => Q (cutG ds l h) T3
  | _ => False
theorem pdo_cut {lo hi : Option Expr} {fl fh : DP} {p2 : Pos} (h : PK X D e f) (hl : POd X D lo fl) (hh : POd X D hi fh) : PDo X D (.Subscript e (.Slice lo hi none p2) pos) (dCutO f fl fh) := by
  refine PE.imp (pe_slice sl_list h hl hh) fun σ H Q ⟨w, E, T, Qh, R, hf, q⟩ => ⟨w, E, T, _, R, hf, fun x T1 v H1 s1 d1 h1 => ⟨w, E, T1, _, R.step s1, h1, fun l T2 H2 s2 h2 => ⟨w, E, T2, _, (R.step s1).step s2, h2, fun h T3 H3 s3 h3 => ?_⟩⟩⟩
  have R3 := ((R.step s1).step s2).step s3
  split at h3
  · obtain ⟨a, vs, rfl, e1, d1⟩ := dk_list ((d1.step s2).step s3)
    exact ⟨a, vs, rfl, SqL.of e1, fun p n => q _ T3 p _ _ (StpO.pre ((s1.trans s2).trans s3) (stpO_new R3.wd n)) (dfAll_own R3.wd n (cut_all d1)) h3⟩
  · exact h3.elim
/-! ### built-ins of one argument -/
def CaD (X : Cx) (fv : Value) (op : PyData → Option PyData) : Prop := ∃ r, CallR X fv r ∧ ∀ (w : Wst) (H : Hp) (v : V) (x z : PyData) (Q : VK), (∀ a ∈ w.O, ∃ xs, H a = some (.lst xs)) → Dk X.K w H v x → op x = some z → (∀ v' H', Same H H' → Df X.K (hidL w.O H') v' z → Q v' H') → r [v] H Q
def dFn (op : PyData → Option PyData) (f : DE) : DE := fun E T Q => f E T fun x T1 => optQ (op x) T1 Q
theorem fn_run {op : PyData → Option PyData} {r : List V → Hp → VK → Prop} (hs : ∀ (w : Wst) (H : Hp) (v : V) (x z : PyData) (Q : VK), (∀ a ∈ w.O, ∃ xs, H a = some (.lst xs)) → Dk X.K w H v x → op x = some z → (∀ v' H', Same H H' → Df X.K (hidL w.O H') v' z → Q v' H') → r [v] H Q)
    {σ : L2.St} {H : Hp} {Q : VK} (h : tD X.K D (dFn op f) σ H Q) : tCB r (tCons (tK X.K D f) tNil) σ H Q := by
  obtain ⟨w, E, T, Qh, R, hf, q⟩ := h
  refine ⟨w, E, T, _, R, hf, fun x T1 v H1 s1 d1 h1 => ?_⟩
  obtain ⟨z, e, h2⟩ := optQ_some h1
  exact hs w H1 v x z Q (R.step s1).wd.lst d1 e fun v' H' sm df => q z T1 v' H' (s1.trans ((R.step s1).wd.stp sm)) df h2
theorem pd_b1 {id : String} {x : Str} {p : Pos} {op : PyData → Option PyData} (hc : CaD X (.builtin id) op) (hg : Gl X x) (hm : X.mg x = none) (hv : bootBuiltins x = some (.builtin id)) (ha : PK X D a f) (hn : x ≠ "__name__" := by decide) (hdb : (x == ("__debug__" : Str)) = false := by decide)
    (he : starEach [a] X.env = (false, eval a X.env) :: starEach [] X.env := by rfl) : PD X D (.Call (.Name x p) [a] [] pos) (dFn op f) := by
  obtain ⟨r, hr, hs⟩ := hc
  exact PE.imp (pe_callB hr hg hm hv (pa_cons ha pa_nil he) hn hdb he rfl) fun σ H Q h => fn_run hs h
theorem pd_t1 {id : String} {x : Str} {p : Pos} {op : PyData → Option PyData} (hc : CaD X (.type id) op) (hg : Gl X x) (hm : X.mg x = none) (hv : bootBuiltins x = some (.type id)) (ha : PK X D a f) (hn : x ≠ "__name__" := by decide) (hdb : (x == ("__debug__" : Str)) = false := by decide)
    (he : starEach [a] X.env = (false, eval a X.env) :: starEach [] X.env := by rfl) : PD X D (.Call (.Name x p) [a] [] pos) (dFn op f) := by
  obtain ⟨r, hr, hs⟩ := hc
  exact PE.imp (pe_callTy hr hg hm hv (pa_cons ha pa_nil he) hn hdb he rfl) fun σ H Q h => fn_run hs h
def lenD : PyData → Option PyData
  | .list ds => some (.int ds.length)
  | .tuple ds => some (.int ds.length)
  | .str z => some (.int z.length)
  | _ => none
theorem cad_len : CaD X (.builtin "len") lenD := by
  refine ⟨_, call_len, fun w H v x z Q hO dx e q => ?_⟩
  unfold lenD at e
  split at e
  · cases e
    obtain ⟨l, vs, rfl, e1, d1⟩ := dk_list dx
    exact ⟨_, _, rfl, .inl ⟨vs, SqL.of e1, rfl⟩, by rw [d1.len]; exact q _ H (Same.refl _) (.int _)⟩
  · cases e
    obtain ⟨l, vs, rfl, e1, d1⟩ := dk_tup dx
    exact ⟨_, _, rfl, .inr ⟨vs, (tz_up e1).sq, rfl⟩, by rw [d1.len]; exact q _ H (Same.refl _) (.int _)⟩
  · cases e
    obtain ⟨rfl, k⟩ := dk_str dx
    exact ⟨_, _, rfl, ⟨sOk.line k, rfl⟩, q _ H (Same.refl _) (.int _)⟩
  · cases e
def tupleD : PyData → Option PyData
  | .list ds => some (.tuple ds)
  | .tuple ds => some (.tuple ds)
  | _ => none
theorem cad_tuple : CaD X (.type "tuple") tupleD := by
  refine ⟨_, call_tupleF, fun w H v x z Q hO dx e q => ?_⟩
  unfold tupleD at e
  split at e
  · cases e
    obtain ⟨l, vs, rfl, e1, d1⟩ := dk_list dx
    exact ⟨l, vs, rfl, .inl ⟨SqL.of e1, fun p o n d => q _ _ (same_upd n) (df_newT hO (same_upd n) (tz_new d) d1)⟩⟩
  · cases e
    obtain ⟨l, vs, rfl, e1, d1⟩ := dk_tup dx
    exact ⟨l, vs, rfl, .inr ⟨(tz_up e1).sq, q _ H (Same.refl _) (.tup e1 d1)⟩⟩
  · cases e
def absD : PyData → Option PyData
  | .int i => some (.int (if i < 0 then -i else i))
  | _ => none
theorem cad_abs : CaD X (.builtin "abs") absD := by
  refine ⟨_, call_abs, fun w H v x z Q hO dx e q => ?_⟩
  unfold absD at e
  split at e
  · cases e
    exact ⟨_, by rw [dk_int dx], q _ H (Same.refl _) (.int _)⟩
  · cases e
/-- list(x), our own -/
def dListO (f : DE) : DOE := fun E T Q => f E T fun x T1 => match x with
  | .list ds => Q ds T1
  | .tuple ds => Q ds T1
  | _ => False
theorem pdo_list {p : Pos} (hg : Gl X "list") (hm : X.mg "list" = none) (hv : bootBuiltins "list" = some (.type "list")) (ha : PK X D a f) (he : starEach [a] X.env = (false, eval a X.env) :: starEach [] X.env := by rfl) : PDo X D (.Call (.Name "list" p) [a] [] pos) (dListO f) :=
  PE.imp (pe_callTy call_list_of hg hm hv (pa_cons ha pa_nil he) (by decide) (by decide) he rfl) fun σ H Q ⟨w, E, T, Qh, R, hf, q⟩ => ⟨w, E, T, _, R, hf, fun x T1 v H1 s1 d1 h1 => by
    split at h1
    · obtain ⟨l, vs, rfl, e1, d2⟩ := dk_list d1
      exact ⟨l, vs, rfl, .inl (SqL.of e1), fun p n => q _ T1 p _ _ (StpO.pre s1 (stpO_new (R.step s1).wd n)) (dfAll_own (R.step s1).wd n d2) h1⟩
    · obtain ⟨l, vs, rfl, e1, d2⟩ := dk_tup d1
      exact ⟨l, vs, rfl, .inr (tz_up e1).sq, fun p n => q _ T1 p _ _ (StpO.pre s1 (stpO_new (R.step s1).wd n)) (dfAll_own (R.step s1).wd n d2) h1⟩
    · exact h1.elim⟩
/-- -e -/
def negD : PyData → Option PyData
  | .int i => some (.int (-i))
  | _ => none
theorem pd_neg (h : PK X D a f) : PD X D (.UnaryOp .USub a pos) (dFn negD f) := PE.imp (pe_un un_neg h) fun σ H Q ⟨w, E, T, Qh, R, hf, q⟩ => ⟨w, E, T, _, R, hf, fun x T1 v H1 s1 d1 h1 => by
  cases x with
  | int i => exact ⟨i, dk_int d1, q _ T1 _ _ s1 (.int _) h1⟩
  | _ => exact h1.elim⟩
/-! isinstance -/
def tyD : PyData → String
  | .none => "NoneType"
  | .bool _ => "bool"
  | .int _ => "int"
  | .str _ => "str"
  | .list _ => "list"
  | .tuple _ => "tuple"
  | .dict _ => "dict"
def isStr : PyData → Bool
  | .str _ => true
  | _ => false
def isTup : PyData → Bool
  | .tuple _ => true
  | _ => false
def isLst : PyData → Bool
  | .list _ => true
  | _ => false
def isInt : PyData → Bool
  | .int _ => true
  | .bool _ => true
  | _ => false
def isBool : PyData → Bool
  | .bool _ => true
  | _ => false
theorem ty_df {K : PySem.W.Frag} {w : Wst} {H : Hp} {v : V} {d : PyData} (h : Dk K w H v d) : TyX K H v (.type (tyD d)) := by
  have h2 := h.df
  cases h2 with
  | non => exact .base .non
  | bl b => exact .base (.bl b)
  | int i => exact .base (.int i)
  | str z _ => exact .base (.str z)
  | lst a _ => exact .base (.lst a)
  | tup a _ =>
    rcases a with ⟨o, a, _⟩ | ⟨o, _, _, a, b, _⟩
    · exact .fTuple a
    · exact .kTuple a b
theorem ki_str : ∀ d : PyData, kitB (tyD d) "str" = some (isStr d)
  | .none => show kitB "NoneType" "str" = some false by decide +kernel
  | .bool _ => show kitB "bool" "str" = some false by decide +kernel
  | .int _ => show kitB "int" "str" = some false by decide +kernel
  | .str _ => show kitB "str" "str" = some true by decide +kernel
  | .list _ => show kitB "list" "str" = some false by decide +kernel
  | .tuple _ => show kitB "tuple" "str" = some false by decide +kernel
  | .dict _ => show kitB "dict" "str" = some false by decide +kernel
theorem ki_tuple : ∀ d : PyData, kitB (tyD d) "tuple" = some (isTup d)
  | .none => show kitB "NoneType" "tuple" = some false by decide +kernel
  | .bool _ => show kitB "bool" "tuple" = some false by decide +kernel
  | .int _ => show kitB "int" "tuple" = some false by decide +kernel
  | .str _ => show kitB "str" "tuple" = some false by decide +kernel
  | .list _ => show kitB "list" "tuple" = some false by decide +kernel
  | .tuple _ => show kitB "tuple" "tuple" = some true by decide +kernel
  | .dict _ => show kitB "dict" "tuple" = some false by decide +kernel
theorem ki_list : ∀ d : PyData, kitB (tyD d) "list" = some (isLst d)
  | .none => show kitB "NoneType" "list" = some false by decide +kernel
  | .bool _ => show kitB "bool" "list" = some false by decide +kernel
  | .int _ => show kitB "int" "list" = some false by decide +kernel
  | .str _ => show kitB "str" "list" = some false by decide +kernel
  | .list _ => show kitB "list" "list" = some true by decide +kernel
  | .tuple _ => show kitB "tuple" "list" = some false by decide +kernel
  | .dict _ => show kitB "dict" "list" = some false by decide +kernel
theorem ki_int : ∀ d : PyData, kitB (tyD d) "int" = some (isInt d)
  | .none => show kitB "NoneType" "int" = some false by decide +kernel
  | .bool _ => show kitB "bool" "int" = some true by decide +kernel
  | .int _ => show kitB "int" "int" = some true by decide +kernel
  | .str _ => show kitB "str" "int" = some false by decide +kernel
  | .list _ => show kitB "list" "int" = some false by decide +kernel
  | .tuple _ => show kitB "tuple" "int" = some false by decide +kernel
  | .dict _ => show kitB "dict" "int" = some false by decide +kernel
theorem ki_bool : ∀ d : PyData, kitB (tyD d) "bool" = some (isBool d)
  | .none => show kitB "NoneType" "bool" = some false by decide +kernel
  | .bool _ => show kitB "bool" "bool" = some true by decide +kernel
  | .int _ => show kitB "int" "bool" = some false by decide +kernel
  | .str _ => show kitB "str" "bool" = some false by decide +kernel
  | .list _ => show kitB "list" "bool" = some false by decide +kernel
  | .tuple _ => show kitB "tuple" "bool" = some false by decide +kernel
  | .dict _ => show kitB "dict" "bool" = some false by decide +kernel
def dB (p : PyData → Bool) (f : DE) : DE := fun E T Q => f E T fun x T1 => Q (.bool (p x)) T1
theorem pd_isi {ty : String} {x : Str} {p pt : Pos} {t : PyData → Bool} (hk : ∀ d, kitB (tyD d) ty = some (t d)) (hg : Gl X "isinstance") (hm : X.mg "isinstance" = none) (gt : Gl X x) (mt : X.mg x = none) (vt : bootBuiltins x = some (.type ty)) (ha : PK X D a f)
    (he : starEach [a, .Name x pt] X.env = (false, eval a X.env) :: starEach [.Name x pt] X.env := by rfl) (he2 : starEach [.Name x pt] X.env = (false, eval (.Name x pt) X.env) :: starEach [] X.env := by rfl) (hpl : (backTo pos (starEach [.Name x pt] X.env)).any (·.1) = false := by rfl) (hn : x ≠ "__name__" := by decide) (hd : (x == ("__debug__" : Str)) = false := by decide) :
    PD X D (.Call (.Name "isinstance" p) [a, .Name x pt] [] pos) (dB t f) :=
  PE.imp (pe_callB call_isi hg hm PyProof.Rows.boot_isinstance (pa_cons ha (pa_cons (pe_bltn (v := .ty ty) gt mt vt rfl hn hd) pa_nil he2) he) (by decide) (by decide) he hpl) fun σ H Q ⟨w, E, T, Qh, R, hf, q⟩ =>
    ⟨w, E, T, _, R, hf, fun x T1 v H1 s1 d1 h1 => ⟨v, _, _, _, _, rfl, .ty _, ty_df d1, kit_ty (hk x), q _ T1 _ _ s1 (.bl _) h1⟩⟩
end
/-! ### defs -/
abbrev DSp := List DV → Nat → (DRt → Nat → Prop) → (DX → Prop) → Prop
def spF (K : PySem.W.Frag) (tb : List Addr) (G : DSp) : Sp := fun vs H Q E => ∃ (hp : Bool) (p c : Addr) (as : List DV) (T : Nat) (Qh : DRt → Nat → Prop) (Eh : DX → Prop),
  Paired (ArgOk K hp p (hidL (pcL hp p c) H)) vs as ∧ (∀ P ∈ tb, GxR.TabG (hidL (pcL hp p c) H) P) ∧ (hp = true → Pur H p c T) ∧ G as T Qh Eh ∧
  (∀ x T' v H', Ky (hidL (pcL hp p c) H) (hidL (pcL hp p c) H') → (hp = true → Pur H' p c T') → Df K (hidL (pcL hp p c) H') v x → Qh (.d x) T' → Q v H') ∧
  (∀ xs T' l us H', l ∉ pcL hp p c → H' l = some (.lst us) → Ky (hidL (pcL hp p c) H) (hidL (l :: pcL hp p c) H') → (hp = true → Pur H' p c T') → DfAll K (hidL (l :: pcL hp p c) H') us xs → Qh (.own xs) T' → Q (.ref l) H') ∧
  (∀ ex H', Ky (hidL (pcL hp p c) H) (hidL (pcL hp p c) H') → (hp = true → Pur H' p c ex.T) → Eh ex → E (.ref ex.C) none H')
def startE (N : List Str) (as : List DV) : Env' := as ++ List.replicate (N.length - as.length) .no
theorem paired_get {α β : Type} {F : α → β → Prop} : ∀ {xs : List α} {ys : List β} {i : Nat} {y : β}, Paired F xs ys → ys[i]? = some y → ∃ x, xs[i]? = some x ∧ F x y
  | _, _, i, y, .nil, e => by simp at e
  | x :: _, y0 :: _, 0, y, .cons r t, e => by
    simp at e
    subst e
    exact ⟨x, rfl, r⟩
  | _, _, i + 1, y, .cons r t, e => by
    rw [List.getElem?_cons_succ] at e
    obtain ⟨x, h1, h2⟩ := paired_get t e
    exact ⟨x, by rw [List.getElem?_cons_succ]; exact h1, h2⟩
theorem paired_len {α β : Type} {F : α → β → Prop} : ∀ {xs : List α} {ys : List β}, Paired F xs ys → xs.length = ys.length
  | _, _, .nil => rfl
  | _, _, .cons _ t => by rw [List.length_cons, List.length_cons, paired_len t]
theorem pur_ne {H : Hp} {p c : Addr} {T : Nat} (h : Pur H p c T) : p ≠ c := by
  obtain ⟨cs, k, hp, hc, h0, _⟩ := h
  refine ne_of hp hc fun e => ?_
  have e2 := HO.lst.inj e
  cases cs with
  | nil => simp at h0
  | cons x r => simp at e2
section
variable {K : PySem.W.Frag} {tb : List Addr}
theorem pc_in {w : Wst} {D : DC} {T : Nat} {H : Hp} (d : Wd D w T H) : ∀ a ∈ w.pc, a ∈ w.O := fun a ha => by
  unfold Wst.pc pcL at ha
  split at ha
  · rename_i h
    rcases List.mem_cons.mp ha with rfl | ha
    · exact (d.pur h).2.1
    · rcases List.mem_cons.mp ha with rfl | ha
      · exact (d.pur h).2.2
      · exact absurd ha List.not_mem_nil
  · exact absurd ha List.not_mem_nil
theorem pc_off {w : Wst} {a : Addr} (h : w.off a) : a ∉ w.pc := fun ha => by
  unfold Wst.pc pcL at ha
  split at ha
  · rename_i hh
    obtain ⟨h1, h2⟩ := h hh
    rcases List.mem_cons.mp ha with e | ha
    · exact h1 e
    · rcases List.mem_cons.mp ha with e | ha
      · exact h2 e
      · exact absurd ha List.not_mem_nil
  · exact absurd ha List.not_mem_nil
/-- from the promise to the body's state -/
theorem start_rp {N : List Str} {hp : Bool} {p c : Addr} {as : List DV} {T : Nat} {vs : List V} {H : Hp} {D : DC} (hl : vs.length ≤ N.length) (ha : Paired (ArgOk K hp p (hidL (pcL hp p c) H)) vs as) (ht : ∀ P ∈ D.tb, GxR.TabG (hidL (pcL hp p c) H) P) (hP : hp = true → Pur H p c T)
    (hx : ∀ (ex : DX) (H' : Hp), Ky (hidL (pcL hp p c) H) (hidL (pcL hp p c) H') → (hp = true → Pur H' p c ex.T) → D.Eh ex → D.E (.ref ex.C) none H') :
    Rp K D ⟨hidL (pcL hp p c) H, pcL hp p c, fun _ => 0, fun _ => 0, p, c, hp⟩ (startE N as) T (start N vs) H := by
  have hv := paired_len ha
  refine ⟨⟨Ky.refl, ht, fun a h => ?_, fun h => ⟨hP h, ?_, ?_⟩, hx⟩, ?_, fun i x e => ?_, fun i j xs ys n e1 e2 => ?_, fun _ _ _ => rfl⟩
  · unfold pcL at h
    split at h
    · rename_i hh
      obtain ⟨cs, k, e1, e2, _⟩ := hP hh
      rcases List.mem_cons.mp h with rfl | h
      · exact ⟨_, e1⟩
      · rcases List.mem_cons.mp h with rfl | h
        · exact ⟨_, e2⟩
        · exact absurd h List.not_mem_nil
    · exact absurd h List.not_mem_nil
  · show p ∈ pcL hp p c
    have h' : hp = true := h
    unfold pcL
    rw [if_pos h']
    exact List.mem_cons_self
  · show c ∈ pcL hp p c
    have h' : hp = true := h
    unfold pcL
    rw [if_pos h']
    exact List.mem_cons_of_mem _ List.mem_cons_self
  · unfold L2.start startE
    rw [List.length_append, List.length_append, List.length_map, List.length_replicate, List.length_replicate, hv]
  · unfold startE at e
    unfold L2.start
    by_cases hi : i < as.length
    · rw [List.getElem?_append_left hi] at e
      obtain ⟨v, e1, e2⟩ := paired_get ha e
      rw [List.getElem?_append_left (by rw [List.length_map]; omega), List.getElem?_map, e1]
      cases x with
      | d x => exact ⟨v, rfl, e2⟩
      | pur => exact ⟨e2.1, by rw [e2.2]; rfl⟩
      | no => trivial
      | own _ => exact e2.elim
      | tr _ => exact e2.elim
      | exc _ =>
        obtain ⟨a, g1, g2⟩ := e2
        exact ⟨a, by rw [g1]; rfl, g2⟩
    · rw [List.getElem?_append_right (by omega)] at e
      have : x = .no := List.eq_of_mem_replicate (List.mem_of_getElem? e)
      rw [this]
      trivial
  · unfold startE at e1
    by_cases hi : i < as.length
    · rw [List.getElem?_append_left hi] at e1
      obtain ⟨v, _, e3⟩ := paired_get ha e1
      exact e3.elim
    · rw [List.getElem?_append_right (by omega)] at e1
      cases List.eq_of_mem_replicate (List.mem_of_getElem? e1)
variable {P : Program} {w : World} {mg : Str → Option Value} {base : Heap}
theorem FnOk.lift {CX : CXT} {k : Nat} {f : Addr} {fd : FuncData} {ps : List Str} {sp : Sp} (F : FnOk P w K mg base CX0 k f fd ps sp) : FnOk P w K mg base CX k f fd ps sp :=
  ⟨F.len, fun A outer s H args us vs Q E hr e0 hb r hsp => codeAny_mono (F.run A outer s H args us vs Q E hr e0 hb r hsp) fun r s' h => by
    cases r with
    | ok fl =>
      cases fl with
      | ret u => exact h
      | _ => exact h.elim
    | error e => exact h.elim⟩
/-- a def's code, and where its own table stands -/
structure FunC (K : PySem.W.Frag) (x qual : Str) (st : Stmt) (f c : Addr) (fd : FuncData) : Prop where
  ex : ∃ (oc : Value) (od : Option Addr) (kV doc pm : Value) (an : Option Addr) (ct : Value) (osl : Array (Option Value)),
    fd = PySem.W.fnOf x qual (defArgs st) (defBody st) (defScope st) .none kV doc pm an (.ref c) ct ∧ K.lookup f = some ⟨oc, od, .func fd, osl⟩ ∧ PySem.W.codeIn K (.ref c) qual = true
  kp : PySem.W.keepIn K (.ref f) = true
/-- what is asked of a body: from the promise by data to the wish -/
theorem body_of {X : Cx} {N : List Str} {D : DC} {G : DSp} {g : DS} {sts : List Stmt} {hp : Bool} {p c : Addr} {as : List DV} {T : Nat} {Qh : DRt → Nat → Prop} {vs : List V} {H : Hp} {Q : VK} (hl : vs.length ≤ N.length)
    (ha : Paired (ArgOk X.K hp p (hidL (pcL hp p c) H)) vs as) (ht : ∀ P ∈ D.tb, GxR.TabG (hidL (pcL hp p c) H) P) (hP : hp = true → Pur H p c T)
    (hx : ∀ (ex : DX) (H' : Hp), Ky (hidL (pcL hp p c) H) (hidL (pcL hp p c) H') → (hp = true → Pur H' p c ex.T) → D.Eh ex → D.E (.ref ex.C) none H')
    (q1 : ∀ x T' v H', Ky (hidL (pcL hp p c) H) (hidL (pcL hp p c) H') → (hp = true → Pur H' p c T') → Df X.K (hidL (pcL hp p c) H') v x → Qh (.d x) T' → Q v H')
    (q2 : ∀ xs T' l us H', l ∉ pcL hp p c → H' l = some (.lst us) → Ky (hidL (pcL hp p c) H) (hidL (l :: pcL hp p c) H') → (hp = true → Pur H' p c T') → DfAll X.K (hidL (l :: pcL hp p c) H') us xs → Qh (.own xs) T' → Q (.ref l) H')
    (hg : g (startE N as) T { nx := fun _ T' => Qh (.d .none) T', rt := Qh }) : tS X.K D g { nx := fun _ H' => Q .non H', rt := Q } (start N vs) H := by
  have R := start_rp (N := N) hl ha ht hP hx
  have cp : ∀ {w' : Wst} {H' : Hp}, Ext ⟨hidL (pcL hp p c) H, pcL hp p c, fun _ => 0, fun _ => 0, p, c, hp⟩ H w' H' → pcL hp p c = w'.pc := fun {w' H'} x => by
    unfold Wst.pc
    rw [x.p, x.c, x.hp]
  refine ⟨_, _, T, _, R, hg, fun w' E T' σ H' x R' n => ?_, fun w' T' r v H' x W' rv n => ?_, fun _ _ _ _ _ _ _ z => z.elim, fun _ _ _ _ _ _ _ z => z.elim⟩
  · have e := cp x
    refine q1 _ T' .non H' (x.ky.trans (Ky.of (hidL_sub fun a ha => pc_in R'.wd a (e ▸ ha)))) (fun h => ?_) .non n
    have h2 := (R'.wd.pur (by rw [x.hp]; exact h)).1
    rw [x.p, x.c] at h2
    exact h2
  · have e := cp x
    have hh : hp = true → Pur H' p c T' := fun h => by
      have h2 := (W'.pur (by rw [x.hp]; exact h)).1
      rw [x.p, x.c] at h2
      exact h2
    cases r with
    | d y =>
      have sub := Ky.of (hidL_sub (H := H') fun a ha => pc_in W' a (e ▸ ha))
      exact q1 y T' v H' (x.ky.trans sub) hh (Df.ky rv sub) n
    | own xs =>
      obtain ⟨l, us, rfl, e1, e2, e3, e4⟩ := rv
      have sub : Ky (hidL w'.O H') (hidL (l :: pcL hp p c) H') := Ky.of (hidL_sub fun a ha => by
        rcases List.mem_cons.mp ha with rfl | ha
        · exact e1
        · exact pc_in W' a (e ▸ ha))
      exact q2 xs T' l us H' (by rw [e]; exact pc_off e2) e3 (x.ky.trans sub) hh (e4.ky sub) n
/-- a def that lets no error out -/
theorem fnd {x qual : Str} {st : Stmt} {f : Addr} {fd : FuncData} {N ps : List Str} {k : Nat} {G : DSp} (F : Fun K x qual st f fd) (S : FnScope N ps (defScope st)) (len : ∀ as T Q E, G as T Q E → as.length = ps.length)
    (body : ∀ (cdv : Value) (A : Around) (outer : List Env) (s : Shared) (H : Hp) (E : XK), Room k (A.deeper (envOfC qual (defScope st) s.heap.objs.size f cdv)) →
      ∃ g, PSsd (cxOf CX0 P w K mg base N qual (defScope st) f cdv A outer s H E).nox (DC.no tb) (defBody st) g ∧ ∀ as T Qh Eh, G as T Qh Eh → g (startE N as) T { nx := fun _ T' => Qh (.d .none) T', rt := Qh }) :
    FnOk P w K mg base (L2.CX P w) (k + 1) f fd ps (spF K tb G) := by
  have hN : ps.length ≤ N.length := by have := congrArg List.length S.pre; rw [List.length_take] at this; omega
  have len' : ∀ vs H Q E, spF K tb G vs H Q E → vs.length = ps.length := fun vs H Q E h => by
    obtain ⟨_, _, _, as, T, Qh, Eh, ha, _, _, hG, _⟩ := h
    rw [paired_len ha]
    exact len as T Qh Eh hG
  refine FnOk.lift (F.ok S len' (fun cdv A outer s H vs Q E hr h => ?_))
  obtain ⟨g, hg, hi⟩ := body cdv A outer s H E hr
  refine ⟨_, hg, ?_⟩
  have hl := len' _ _ _ _ h
  obtain ⟨hp, p, c, as, T, Qh, Eh, ha, ht, hP, hG, q1, q2, q3⟩ := h
  exact body_of (X := (cxOf CX0 P w K mg base N qual (defScope st) f cdv A outer s H E).nox) (G := G) (sts := defBody st) (by omega) ha ht hP (fun _ _ _ _ z => z.elim) q1 q2 (hi as T Qh Eh hG)
theorem fndC {x qual : Str} {st : Stmt} {f c : Addr} {fd : FuncData} {N ps : List Str} {k : Nat} {G : DSp} (F : FunC K x qual st f c fd) (S : FnScope N ps (defScope st)) (len : ∀ as T Q E, G as T Q E → as.length = ps.length)
    (body : ∀ (A : Around) (outer : List Env) (s : Shared) (H : Hp) (E : XK), Room k (A.deeper (envOfC qual (defScope st) s.heap.objs.size f (.ref c))) →
      ∃ g, PSsd (cxOf CX0 P w K mg base N qual (defScope st) f (.ref c) A outer s H E).nox (DC.no tb) (defBody st) g ∧ ∀ as T Qh Eh, G as T Qh Eh → g (startE N as) T { nx := fun _ T' => Qh (.d .none) T', rt := Qh }) :
    FnOk P w K mg base (L2.CX P w) (k + 1) f fd ps (spF K tb G) := by
  have hN : ps.length ≤ N.length := by have := congrArg List.length S.pre; rw [List.length_take] at this; omega
  have len' : ∀ vs H Q E, spF K tb G vs H Q E → vs.length = ps.length := fun vs H Q E h => by
    obtain ⟨_, _, _, as, T, Qh, Eh, ha, _, _, hG, _⟩ := h
    rw [paired_len ha]
    exact len as T Qh Eh hG
  obtain ⟨oc, od, kV, doc, pm, an, ct, osl, rfl, lk, hcd⟩ := F.ex
  refine FnOk.lift (fn_of lk hcd S len' fun A outer s H vs Q E hr h => ?_)
  obtain ⟨g, hg, hi⟩ := body A outer s H E hr
  refine ⟨_, PSs.nox hg, ?_⟩
  have hl := len' _ _ _ _ h
  obtain ⟨hp, p, c, as, T, Qh, Eh, ha, ht, hP, hG, q1, q2, q3⟩ := h
  exact body_of (X := (cxOf CX0 P w K mg base N qual (defScope st) f (.ref _) A outer s H E).nox) (G := G) (sts := defBody st) (by omega) ha ht hP (fun _ _ _ _ z => z.elim) q1 q2 (hi as T Qh Eh hG)
/-- a def that may let one out -/
theorem fndX {x qual : Str} {st : Stmt} {f : Addr} {fd : FuncData} {N ps : List Str} {k : Nat} {G : DSp} (F : Fun K x qual st f fd) (S : FnScope N ps (defScope st)) (len : ∀ as T Q E, G as T Q E → as.length = ps.length)
    (body : ∀ (cdv : Value) (A : Around) (outer : List Env) (s : Shared) (H : Hp) (E : XK) (Eh : DX → Prop), Room k (A.deeper (envOfC qual (defScope st) s.heap.objs.size f cdv)) →
      ∃ g, PSsd (cxOf (L2.CX P w) P w K mg base N qual (defScope st) f cdv A outer s H E) ⟨tb, E, Eh⟩ (defBody st) g ∧ ∀ as T Qh, G as T Qh Eh → g (startE N as) T { nx := fun _ T' => Qh (.d .none) T', rt := Qh }) :
    FnOk P w K mg base (L2.CX P w) (k + 1) f fd ps (spF K tb G) := by
  have hN : ps.length ≤ N.length := by have := congrArg List.length S.pre; rw [List.length_take] at this; omega
  have len' : ∀ vs H Q E, spF K tb G vs H Q E → vs.length = ps.length := fun vs H Q E h => by
    obtain ⟨_, _, _, as, T, Qh, Eh, ha, _, _, hG, _⟩ := h
    rw [paired_len ha]
    exact len as T Qh Eh hG
  refine F.okX S len' (fun cdv A outer s H vs Q E hr h => ?_)
  have hl := len' _ _ _ _ h
  obtain ⟨hp, p, c, as, T, Qh, Eh, ha, ht, hP, hG, q1, q2, q3⟩ := h
  obtain ⟨g, hg, hi⟩ := body cdv A outer s H E Eh hr
  exact ⟨_, hg, body_of (X := cxOf (L2.CX P w) P w K mg base N qual (defScope st) f cdv A outer s H E) (D := ⟨tb, E, Eh⟩) (G := G) (sts := defBody st) (by omega) ha ht hP q3 q1 q2 (hi as T Qh hG)⟩
end
end Dv
set_option Elab.async false
set_option linter.all false
set_option maxRecDepth 100000
set_option maxHeartbeats 4000000
namespace Dv
open PySem PySem.Spec PyProof.Rows L2
/-! ### calls of defs -/
section
variable {D : DC} {w : Wst} {T : Nat} {H H2 : Hp}
def Wst.rest (w : Wst) : List Addr := w.O.filter fun a => decide (a ∉ w.pc)
theorem in_rest {a : Addr} : a ∈ w.rest ↔ a ∈ w.O ∧ a ∉ w.pc := by
  show a ∈ w.O.filter _ ↔ _
  rw [List.mem_filter, decide_eq_true_iff]
theorem hid_rest (d : Wd D w T H) : hidL w.pc (hidL w.rest H) = hidL w.O H := by
  funext a
  by_cases h1 : a ∈ w.pc
  · rw [hidL_in h1, hidL_in (pc_in d a h1)]
  · rw [hidL_at h1]
    by_cases h2 : a ∈ w.O
    · rw [hidL_in h2, hidL_in (in_rest.mpr ⟨h2, h1⟩)]
    · rw [hidL_at h2, hidL_at fun z => h2 (in_rest.mp z).1]
theorem join_rest (d : Wd D w T H) (n : ∀ a ∈ w.rest, H2 a = none) : hidL w.O (joinL w.rest H H2) = hidL w.pc H2 := by
  funext a
  by_cases h1 : a ∈ w.pc
  · rw [hidL_in h1, hidL_in (pc_in d a h1)]
  · rw [hidL_at h1]
    by_cases h2 : a ∈ w.O
    · rw [hidL_in h2, n a (in_rest.mpr ⟨h2, h1⟩)]
    · rw [hidL_at h2, joinL_off fun z => h2 (in_rest.mp z).1]
theorem join_restO {l : Addr} (d : Wd D w T H) (n : ∀ a ∈ w.rest, H2 a = none) : hidL (l :: w.O) (joinL w.rest H H2) = hidL (l :: w.pc) H2 := by
  funext a
  by_cases h : a = l
  · rw [hidL_in (h ▸ List.mem_cons_self), hidL_in (h ▸ List.mem_cons_self)]
  · have e1 : hidL (l :: w.O) (joinL w.rest H H2) a = hidL w.O (joinL w.rest H H2) a := by
      unfold hidL
      simp only [List.mem_cons, h, false_or]
    have e2 : hidL (l :: w.pc) H2 a = hidL w.pc H2 a := by
      unfold hidL
      simp only [List.mem_cons, h, false_or]
    rw [e1, e2, join_rest d n]
theorem rest_pur (d : Wd D w T H) (h : w.hp = true) : w.p ∉ w.rest ∧ w.c ∉ w.rest := by
  have e : w.pc = [w.p, w.c] := if_pos h
  exact ⟨fun z => (in_rest.mp z).2 (by rw [e]; exact List.mem_cons_self), fun z => (in_rest.mp z).2 (by rw [e]; exact List.mem_cons_of_mem _ List.mem_cons_self)⟩
theorem join_stp {T2 : Nat} (d : Wd D w T H) (n : ∀ a ∈ w.rest, H2 a = none) (ky : Ky (hidL w.O H) (hidL w.pc H2)) (hP : w.hp = true → Pur H2 w.p w.c T2) : Stp w T H T2 (joinL w.rest H H2) := by
  refine ⟨by rw [join_rest d n]; exact ky, fun a ha ho => joinL_in (in_rest.mpr ⟨ha, pc_off ho⟩), fun h => ?_⟩
  exact (hP h).of (joinL_off (rest_pur d h).1) (joinL_off (rest_pur d h).2)
end
section
variable {X : Cx} {D : DC} {e : Expr} {es : List Expr} {fa : DA} {p pos : Pos} {x : Str} {tb : List Addr} {G : DSp} {k : Nat} {f : Addr} {fd : FuncData} {ps : List Str} {E : XK}
/-- f(..): what its promise by data asks; Eh what may be raised -/
def dCall (Eh : DX → Prop) (G : DSp) (fa : DA) : DE := fun E T Q => fa E T fun as T1 => G as T1 (fun r T2 => Q r.dat T2) Eh
def dCallO (Eh : DX → Prop) (G : DSp) (fa : DA) : DOE := fun E T Q => fa E T fun as T1 => G as T1 (fun r T2 => match r with
  | .own xs => Q xs T2
  | .d _ => False) Eh
/-- how an error that is wished of leaves -/
def Outs (D : DC) (E : XK) (Eh : DX → Prop) : Prop := ∀ (w : Wst) (T : Nat) (H : Hp) (ex : DX) (H' : Hp), Wd D w T H → Ky (hidL w.O H) (hidL w.pc H') → (w.hp = true → Pur H' w.p w.c ex.T) → Eh ex → E (.ref ex.C) none H'
theorem outs_no : Outs D E (fun _ => False) := fun _ _ _ _ _ _ _ _ z => z.elim
theorem outs_D : Outs D D.E D.Eh := fun w T H ex H' d ky hP h => d.exl ex H' (d.ky.trans ky) hP h
theorem call_runS {Eh : DX → Prop} (htb : ∀ P ∈ tb, P ∈ D.tb) {w : Wst} {T : Nat} {vs : List V} {as : List DV} {H1 : Hp} {Q : VK} {Qh : DRt → Nat → Prop} (ho : ∀ (ex : DX) (H' : Hp), Ky (hidL w.O H1) (hidL w.pc H') → (w.hp = true → Pur H' w.p w.c ex.T) → Eh ex → E (.ref ex.C) none H') (d : Wd D w T H1) (ha : Paired (ArgOk X.K w.hp w.p (hidL w.O H1)) vs as) (hG : G as T Qh Eh)
    (q1 : ∀ x T' v H', Stp w T H1 T' H' → Df X.K (hidL w.O H') v x → Qh (.d x) T' → Q v H') (q2 : ∀ xs T' l us H', StpO w T H1 T' H' l us → DfAll X.K (hidL (l :: w.O) H') us xs → Qh (.own xs) T' → Q (.ref l) H') :
    ∃ O : List Addr, (∀ a ∈ O, ∃ xs, H1 a = some (.lst xs)) ∧ spF X.K tb G (vs ++ []) (hidL O H1) (fun v H' => (∀ a ∈ O, H' a = none) → Q v (joinL O H1 H')) E := by
  have hr := hid_rest d
  have hr' : hidL (pcL w.hp w.p w.c) (hidL w.rest H1) = hidL w.O H1 := hr
  refine ⟨w.rest, fun a ha => d.lst a (in_rest.mp ha).1, w.hp, w.p, w.c, as, T, Qh, Eh, ?_, fun P hP => ?_, fun h => ?_, hG, fun x T' v H2 ky hP df hq n => ?_, fun xs T' l us H2 hl e ky hP df hq n => ?_, fun ex H2 ky hP hq => ?_⟩
  · rw [List.append_nil, hr']
    exact ha
  · rw [hr']
    exact d.tab P (htb P hP)
  · exact (d.pur h).1.of (hidL_at (rest_pur d h).1) (hidL_at (rest_pur d h).2)
  · rw [hr'] at ky
    exact q1 x T' v _ (join_stp d n ky hP) (by rw [join_rest d n]; exact df) hq
  · rw [hr'] at ky
    have hlO : l ∉ w.O := fun z => by
      by_cases h1 : l ∈ w.pc
      · exact hl h1
      · rw [n l (in_rest.mpr ⟨z, h1⟩)] at e
        cases e
    have st := join_stp (T2 := T') d n (ky.trans (Ky.of hidL_cons_le)) hP
    refine q2 xs T' l us _ ⟨hlO, fun h => ?_, by rw [joinL_off fun z => hlO (in_rest.mp z).1]; exact e, by rw [join_restO d n]; exact ky, st.same, st.pur⟩ (by rw [join_restO d n]; exact df) hq
    exact ⟨fun z => hlO (z ▸ (d.pur h).2.1), fun z => hlO (z ▸ (d.pur h).2.2)⟩
  · rw [hr'] at ky
    exact ho ex H2 ky hP hq
theorem call_run {Eh : DX → Prop} (htb : ∀ P ∈ tb, P ∈ D.tb) (ho : Outs D E Eh) {w : Wst} {T : Nat} {vs : List V} {as : List DV} {H1 : Hp} {Q : VK} {Qh : DRt → Nat → Prop} (d : Wd D w T H1) (ha : Paired (ArgOk X.K w.hp w.p (hidL w.O H1)) vs as) (hG : G as T Qh Eh)
    (q1 : ∀ x T' v H', Stp w T H1 T' H' → Df X.K (hidL w.O H') v x → Qh (.d x) T' → Q v H') (q2 : ∀ xs T' l us H', StpO w T H1 T' H' l us → DfAll X.K (hidL (l :: w.O) H') us xs → Qh (.own xs) T' → Q (.ref l) H') :
    ∃ O : List Addr, (∀ a ∈ O, ∃ xs, H1 a = some (.lst xs)) ∧ spF X.K tb G (vs ++ []) (hidL O H1) (fun v H' => (∀ a ∈ O, H' a = none) → Q v (joinL O H1 H')) E := call_runS htb (fun ex H' ky hP h => ho w T H1 ex H' d ky hP h) d ha hG q1 q2
theorem own_df {K : PySem.W.Frag} {w : Wst} {T T' : Nat} {H H' : Hp} {l : Addr} {us : List V} {xs : List PyData} (s : StpO w T H T' H' l us) (d : DfAll K (hidL (l :: w.O) H') us xs) : Df K (hidL w.O H') (.ref l) (.list xs) := .lst (by rw [hidL_at s.new]; exact s.at_) (d.ky (Ky.of hidL_cons_le))
/-- f(..), a def of the module -/
theorem pd_callE {Eh : DX → Prop} (F : FnOk X.prog X.w X.K X.mg X.base (L2.CX X.prog X.w) k f fd ps (spF X.K tb G)) (hr : Room k X.A) (hg : Gl X x) (hm : X.mg x = some (.ref f)) (hk : PySem.W.keepIn X.K (.ref f) = true) (hb : Binds X.K fd ps []) (hx : Passes (L2.CX X.prog X.w) X E) (htb : ∀ P ∈ tb, P ∈ D.tb) (ho : Outs D E Eh)
    (ha : PAd X D (e :: es) fa) (hdb : (x == ("__debug__" : Str)) = false := by decide) (he : starEach (e :: es) X.env = (false, eval e X.env) :: starEach es X.env := by rfl) (hpl : (backTo pos (starEach es X.env)).any (·.1) = false := by rfl) :
    PD X D (.Call (.Name x p) (e :: es) [] pos) (dCall Eh G fa) := PE.imp (pe_callH F hr hg hm hk hb .nil hx ha hdb he hpl) fun σ H Q ⟨w, Ev, T, Qh, R, hf, q⟩ => ⟨w, Ev, T, _, R, hf, fun as T1 vs H1 s1 d1 h1 =>
      call_run htb ho (R.step s1).wd d1 h1 (fun x T' v H' s df hq => q x T' v H' (s1.trans s) df hq) (fun xs T' l us H' s df hq => q _ T' _ H' (s1.trans s.stp) (own_df s df) hq)⟩
theorem pdo_callE {Eh : DX → Prop} (F : FnOk X.prog X.w X.K X.mg X.base (L2.CX X.prog X.w) k f fd ps (spF X.K tb G)) (hr : Room k X.A) (hg : Gl X x) (hm : X.mg x = some (.ref f)) (hk : PySem.W.keepIn X.K (.ref f) = true) (hb : Binds X.K fd ps []) (hx : Passes (L2.CX X.prog X.w) X E) (htb : ∀ P ∈ tb, P ∈ D.tb) (ho : Outs D E Eh)
    (ha : PAd X D (e :: es) fa) (hdb : (x == ("__debug__" : Str)) = false := by decide) (he : starEach (e :: es) X.env = (false, eval e X.env) :: starEach es X.env := by rfl) (hpl : (backTo pos (starEach es X.env)).any (·.1) = false := by rfl) :
    PDo X D (.Call (.Name x p) (e :: es) [] pos) (dCallO Eh G fa) := PE.imp (pe_callH F hr hg hm hk hb .nil hx ha hdb he hpl) fun σ H Q ⟨w, Ev, T, Qh, R, hf, q⟩ => ⟨w, Ev, T, _, R, hf, fun as T1 vs H1 s1 d1 h1 =>
      call_run htb ho (R.step s1).wd d1 h1 (fun x T' v H' s df hq => hq.elim) (fun xs T' l us H' s df hq => q _ T' _ us H' (StpO.pre s1 s) df hq)⟩
theorem passF {X : Cx} : Passes (L2.CX X.prog X.w) X (fun _ _ _ => False) := fun _ _ _ _ _ _ _ c => by
  obtain ⟨_, _, _, _, _, _, _, _, _, _, _, _, z⟩ := c
  exact z.elim
/-- a def of the module, as it stands behind the top -/
structure AtD (P : Program) (w : World) (K : PySem.W.Frag) (mg : Str → Option Value) (base : Heap) (k : Nat) (tb : List Addr) (nm : Str) (ps : List Str) (G : DSp) : Prop where
  ex : ∃ f fd, FnOk P w K mg base (L2.CX P w) k f fd ps (spF K tb G) ∧ PySem.W.keepIn K (.ref f) = true ∧ Binds K fd ps [] ∧ mg nm = some (.ref f)
theorem pd_call (F : AtD X.prog X.w X.K X.mg X.base k D.tb x ps G) (hr : Room k X.A) (hg : Gl X x) (ha : PAd X D (e :: es) fa) (hdb : (x == ("__debug__" : Str)) = false := by decide)
    (he : starEach (e :: es) X.env = (false, eval e X.env) :: starEach es X.env := by rfl) (hpl : (backTo pos (starEach es X.env)).any (·.1) = false := by rfl) : PD X D (.Call (.Name x p) (e :: es) [] pos) (dCall (fun _ => False) G fa) := by
  obtain ⟨f, fd, h1, h2, h3, h4⟩ := F.ex
  exact pd_callE h1 hr hg h4 h2 h3 passF (fun _ h => h) outs_no ha hdb he hpl
theorem pdo_call (F : AtD X.prog X.w X.K X.mg X.base k D.tb x ps G) (hr : Room k X.A) (hg : Gl X x) (ha : PAd X D (e :: es) fa) (hdb : (x == ("__debug__" : Str)) = false := by decide)
    (he : starEach (e :: es) X.env = (false, eval e X.env) :: starEach es X.env := by rfl) (hpl : (backTo pos (starEach es X.env)).any (·.1) = false := by rfl) : PDo X D (.Call (.Name x p) (e :: es) [] pos) (dCallO (fun _ => False) G fa) := by
  obtain ⟨f, fd, h1, h2, h3, h4⟩ := F.ex
  exact pdo_callE h1 hr hg h4 h2 h3 passF (fun _ h => h) outs_no ha hdb he hpl
/-- .. whose errors leave this def too -/
theorem pd_callX (F : AtD X.prog X.w X.K X.mg X.base k D.tb x ps G) (hr : Room k X.A) (hg : Gl X x) (tk : Takes X (fun cls d _ H => D.E cls d H)) (ha : PAd X D (e :: es) fa) (hdb : (x == ("__debug__" : Str)) = false := by decide)
    (he : starEach (e :: es) X.env = (false, eval e X.env) :: starEach es X.env := by rfl) (hpl : (backTo pos (starEach es X.env)).any (·.1) = false := by rfl) : PD X D (.Call (.Name x p) (e :: es) [] pos) (dCall D.Eh G fa) := by
  obtain ⟨f, fd, h1, h2, h3, h4⟩ := F.ex
  exact pd_callE h1 hr hg h4 h2 h3 (passes_call tk fun _ _ _ _ h => h) (fun _ h => h) outs_D ha hdb he hpl
/-- raise C('..') -/
def dRaise (Eh : DX → Prop) (C : Addr) : DS := fun _ T _ => Eh ⟨C, T⟩
theorem psd_raise {C : Addr} (hc : X.calm = true) (tk : Takes X (fun cls d _ H => D.E cls d H)) (hm : PMk X e (fun _ H Q => Q (.ref C) none H)) : PSd X D (.Raise (some e) none pos) (dRaise D.Eh C) := PS.imp (ps_raise hc tk hm) fun Dn σ H ⟨w, Ev, T, Dh, R, hg, l⟩ =>
  R.wd.exl ⟨C, T⟩ H (R.wd.ky.trans (Ky.of (hidL_sub fun a ha => pc_in R.wd a ha))) (fun h => (R.wd.pur h).1) hg
end
/-! ### targets -/
def Wip (vs : List Nat) (σ σ' : L2.St) : Prop := σ'.length = σ.length ∧ ∀ i, i ∉ vs → σ'[i]? = σ[i]?
theorem wipe_at {σ : L2.St} {i : Nat} : ∀ {vs : List Nat}, i ∈ vs → (wipe σ vs)[i]? = if i < σ.length then some none else none
  | [], h => absurd h List.not_mem_nil
  | v :: vs, h => by
    unfold wipe
    by_cases e : i = v
    · subst e
      by_cases hl : i < σ.length
      · rw [List.getElem?_set_self (by rw [wipe_length]; exact hl), if_pos hl]
      · rw [List.getElem?_eq_none (by rw [List.length_set, wipe_length]; omega), if_neg hl]
    · rw [List.getElem?_set_ne (fun z => e z.symm)]
      rcases List.mem_cons.mp h with z | h
      · exact absurd z e
      · exact wipe_at h
theorem Wip.eq {vs : List Nat} {σ σ' : L2.St} (h : Wip vs σ σ') : wipe σ' vs = wipe σ vs := by
  refine List.ext_getElem? fun i => ?_
  by_cases hi : i ∈ vs
  · rw [wipe_at hi, wipe_at hi, h.1]
  · rw [wipe_out hi, wipe_out hi, h.2 i hi]
theorem Wip.refl {vs : List Nat} {σ : L2.St} : Wip vs σ σ := ⟨rfl, fun _ _ => rfl⟩
theorem Wip.app {vs us : List Nat} {σ σ1 σ2 : L2.St} (h : Wip vs σ σ1) (g : Wip us σ1 σ2) : Wip (vs ++ us) σ σ2 := ⟨g.1.trans h.1, fun i hi => (g.2 i fun z => hi (List.mem_append_right _ z)).trans (h.2 i fun z => hi (List.mem_append_left _ z))⟩
abbrev DG := PyData → Env' → (Env' → Prop) → Prop
abbrev DGs := List PyData → Env' → (Env' → Prop) → Prop
def tG (K : PySem.W.Frag) (D : DC) (vs : List Nat) (γ : DG) : TG := fun v σ H Q => ∃ w E T x Qh, Rp K D w E T σ H ∧ Df K (hidL w.O H) v x ∧ γ x E Qh ∧ ∀ E' σ', Rp K D w E' T σ' H → Wip vs σ σ' → Qh E' → Q σ' H
def tGs (K : PySem.W.Frag) (D : DC) (vs : List Nat) (γ : DGs) : TGs := fun us σ H Q => ∃ w E T xs Qh, Rp K D w E T σ H ∧ DfAll K (hidL w.O H) us xs ∧ γ xs E Qh ∧ ∀ E' σ', Rp K D w E' T σ' H → Wip vs σ σ' → Qh E' → Q σ' H
def PGd (X : Cx) (D : DC) (tg : Expr) (vs : List Nat) (γ : DG) : Prop := PG X tg (tG X.K D vs γ)
def PGsd (X : Cx) (D : DC) (tgs : List Expr) (vs : List Nat) (γ : DGs) : Prop := PGs X tgs (tGs X.K D vs γ)
section
variable {X : Cx} {D : DC} {tg : Expr} {tgs : List Expr} {vs us : List Nat} {γ : DG} {γs : DGs} {pos : Pos}
theorem PG.imp {t t' : TG} (h : PG X tg t) (i : ∀ v σ H Q, t' v σ H Q → t v σ H Q) : PG X tg t' := ⟨fun pins s σ H v u Q I r q => h.run pins s σ H v u Q I r (i v σ H Q q)⟩
theorem PGs.imp {t t' : TGs} (h : PGs X tgs t) (i : ∀ v σ H Q, t' v σ H Q → t v σ H Q) : PGs X tgs t' := ⟨fun pins s σ H v u Q I r q => h.run pins s σ H v u Q I r (i v σ H Q q)⟩
def gdName (i : Nat) : DG := fun x E Q => Q (E.set i (.d x))
theorem pgd_name {i : Nat} {x : Str} (hN : X.N.Nodup) (hi : X.N[i]? = some x) (hx : Loc X.env.scope x) (hf : X.fn x = true ∨ X.env.scope.names.lookup x = some .local := by first | exact .inl rfl | exact .inr rfl | assumption) : PGd X D (.Name x pos) [i] (gdName i) :=
  PG.imp (pg_name hN hi hx hf) fun v σ H Q ⟨w, E, T, x, Qh, R, d, h, q⟩ => q _ _ (R.set d) ⟨List.length_set, fun j hj => List.getElem?_set_ne (fun z : i = j => hj (by rw [z]; exact List.mem_cons_self))⟩ h
def gdNil : DGs := fun xs E Q => match xs with
  | [] => Q E
  | _ => False
def gdCons (γ : DG) (γs : DGs) : DGs := fun xs E Q => match xs with
  | x :: r => γ x E fun E' => γs r E' Q
  | [] => False
theorem pgsd_nil : PGsd X D [] [] gdNil := PGs.imp pgs_nil fun v σ H Q ⟨w, E, T, xs, Qh, R, d, h, q⟩ => by
  cases d with
  | nil => exact ⟨rfl, q E σ R Wip.refl h⟩
  | cons _ _ => exact h.elim
theorem pgsd_cons (h1 : PGd X D tg vs γ) (h2 : PGsd X D tgs us γs) (hs : (assignEach (tg :: tgs) X.env).map (·.2) = assign tg X.env :: (assignEach tgs X.env).map (·.2) := by rfl) : PGsd X D (tg :: tgs) (vs ++ us) (gdCons γ γs) := PGs.imp (pgs_cons h1 h2 hs) fun v σ H Q ⟨w, E, T, xs, Qh, R, d, h, q⟩ => by
  cases d with
  | nil => exact h.elim
  | cons a b => exact ⟨_, _, rfl, w, E, T, _, _, R, a, h, fun E1 σ1 R1 w1 h1 => ⟨w, E1, T, _, _, R1, b, h1, fun E2 σ2 R2 w2 h2 => q E2 σ2 R2 (w1.app w2) h2⟩⟩
/-- a, b = a tuple -/
def gdTup (n : Nat) (γs : DGs) : DG := fun x E Q => match x with
  | .tuple ds => ds.length = n ∧ γs ds E Q
  | _ => False
theorem pgd_tup {k n : Nat} (hc : X.calm = true) (h : PGsd X D tgs vs γs) (hn : (assignEach tgs X.env).length = n := by rfl) (hst : (assignEach tgs X.env).findIdx? (·.1) = none := by rfl) : PGd X D (.Tuple tgs k pos) vs (gdTup n γs) :=
  PG.imp (pg_tup hc h hn hst) fun v σ H Q ⟨w, E, T, x, Qh, R, d, h, q⟩ => by
    unfold gdTup at h
    split at h
    · obtain ⟨a, xs, rfl, t, da⟩ := df_tup d
      exact ⟨a, xs, rfl, (tz_up t).sq, by rw [da.len]; exact h.1, w, E, T, _, Qh, R, da, h.2, q⟩
    · exact h.elim
variable {e : Expr} {f : DE}
/-- target = value -/
def dAsg (f : DE) (γ : DG) : DS := fun E T D => f E T fun x T' => γ x E fun E' => D.nx E' T'
theorem psd_asg (he : PD X D e f) (hg : PGd X D tg vs γ) (hs : swapsWithSole [tg] e pos.line X.env = pure false := by rfl) (hw : swappedStores [tg] e X.env = pure none := by rfl) (h1 : (assignEach [tg] X.env).map (·.2) = [assign tg X.env] := by rfl) : PSd X D (.Assign [tg] e pos) (dAsg f γ) :=
  PS.imp (ps_asg he hg hs hw h1) fun Dn σ H ⟨w, E, T, Dh, R, hg, l⟩ => ⟨w, E, T, _, R, hg, fun x T' v H' s d hx => ⟨w, E, T', x, _, R.step s, d, hx, fun E' σ' R' _ h' => l.nx w E' T' σ' H' s.ext R' h'⟩⟩
end
end Dv
set_option Elab.async false
set_option linter.all false
set_option maxRecDepth 100000
set_option maxHeartbeats 4000000
namespace Dv
open PySem PySem.Spec PyProof.Rows L2
/-! ### what is walked -/
/-- a value that is yielded: data, or a new pair that is taken apart at once -/
def YOk (κ : Bool) (K : PySem.W.Frag) (w : Wst) (H : Hp) (v : V) (d : PyData) : Prop := match κ with
  | false => Df K (hidL w.O H) v d
  | true => ∃ Tp us ds, v = .ref Tp ∧ H Tp = some (.tup us) ∧ DfAll K (hidL w.O H) us ds ∧ d = .tuple ds
def tGy (κ : Bool) (K : PySem.W.Frag) (D : DC) (vs : List Nat) (γ : DG) : TG := fun v σ H Q => ∃ w E T x Qh, Rp K D w E T σ H ∧ YOk κ K w H v x ∧ γ x E Qh ∧ ∀ E' σ', Rp K D w E' T σ' H → Wip vs σ σ' → Qh E' → Q σ' H
def PGy (κ : Bool) (X : Cx) (D : DC) (tg : Expr) (vs : List Nat) (γ : DG) : Prop := PG X tg (tGy κ X.K D vs γ)
section
variable {X : Cx} {D : DC} {tg : Expr} {tgs : List Expr} {vs us : List Nat} {γ : DG} {γs : DGs} {pos : Pos}
theorem PGd.y (h : PGd X D tg vs γ) : PGy false X D tg vs γ := h
theorem pgy_tup {k n : Nat} (hc : X.calm = true) (h : PGsd X D tgs vs γs) (hn : (assignEach tgs X.env).length = n := by rfl) (hst : (assignEach tgs X.env).findIdx? (·.1) = none := by rfl) : PGy true X D (.Tuple tgs k pos) vs (gdTup n γs) :=
  PG.imp (pg_tup hc h hn hst) fun v σ H Q ⟨w, E, T, x, Qh, R, d, h, q⟩ => by
    obtain ⟨Tp, us, ds, rfl, e, da, rfl⟩ := d
    exact ⟨Tp, us, rfl, SqT.of e, by rw [da.len]; exact h.1, w, E, T, _, Qh, R, da, h.2, q⟩
end
def IsIt (κ : Bool) (K : PySem.W.Frag) (w : Wst) (H : Hp) (J : It) (xs : List PyData) : Prop := ∃ (Gd : Hp → Prop) (Y : Nat → Hp → V → Hp → Prop), Walk J xs.length Gd Y ∧ (∀ (w' : Wst) (H' : Hp), Ky (hidL w.O H) (hidL w'.O H') → Gd H') ∧
  ∀ i Ha v Hb, Y i Ha v Hb → Same Ha Hb ∧ ∃ d, xs[i]? = some d ∧ ∀ w' : Wst, Ky (hidL w.O H) (hidL w'.O Ha) → YOk κ K w' Hb v d
abbrev DIt := Env' → Nat → (List PyData → Nat → Prop) → Prop
def tI (κ : Bool) (K : PySem.W.Frag) (D : DC) (f : DIt) : TI := fun σ H R => ∃ w E T Qh, Rp K D w E T σ H ∧ f E T Qh ∧ ∀ xs T' J H', Stp w T H T' H' → IsIt κ K w H' J xs → Qh xs T' → R J H'
def PId (κ : Bool) (X : Cx) (D : DC) (tg iter : Expr) (f : DIt) : Prop := PI X tg iter (tI κ X.K D f)
section
variable {X : Cx} {D : DC} {tg e e2 : Expr} {f f2 : DE} {p pos tpos : Pos} {elts : List Expr} {kk : Nat}
theorem PI.imp {tg iter : Expr} {t t' : TI} (h : PI X tg iter t) (i : ∀ σ H R, t' σ H R → t σ H R) : PI X tg iter t' := ⟨fun pins s σ H R I q => h.run pins s σ H R I (i σ H R q)⟩
def iL (f : DE) : DIt := fun E T Q => f E T fun x T' => match x with
  | .list ds => Q ds T'
  | _ => False
def iT (f : DE) : DIt := fun E T Q => f E T fun x T' => match x with
  | .tuple ds => Q ds T'
  | _ => False
def signs (z : Str) : List PyData := z.cps.toList.map fun c => .str ⟨#[c]⟩
def iS (f : DE) : DIt := fun E T Q => f E T fun x T' => match x with
  | .str z => Q (signs z) T'
  | _ => False
theorem lst_stay {w w' : Wst} {H H' : Hp} {a : Addr} {us : List V} (e : hidL w.O H a = some (.lst us)) (k : Ky (hidL w.O H) (hidL w'.O H')) : H' a = some (.lst us) := (hidL_off (k _ (.lst us) (fun _ z => nomatch z) e)).2
theorem is_list {K : PySem.W.Frag} {w : Wst} {H : Hp} {a : Addr} {us : List V} {ds : List PyData} (e : hidL w.O H a = some (.lst us)) (d : DfAll K (hidL w.O H) us ds) : IsIt false K w H (Itl K a) ds := by
  refine ⟨_, _, by rw [← d.len]; exact walk_list (xs := us), fun w' H' k => SqL.of (lst_stay e k), fun i Ha v Hb y => ?_⟩
  obtain ⟨rfl, hx⟩ := y
  obtain ⟨dx, ex, hd⟩ := d.get hx
  exact ⟨Same.refl _, dx, ex, fun w' k => hd.ky k⟩
theorem is_tup {K : PySem.W.Frag} {w : Wst} {H : Hp} {a : Addr} {us : List V} {ds : List PyData} (e : Tz K (hidL w.O H) a us) (d : DfAll K (hidL w.O H) us ds) : IsIt false K w H (Itt K a) ds := by
  refine ⟨_, _, by rw [← d.len]; exact walk_tup (xs := us), fun w' H' k => (tz_up (k.tz e)).sq, fun i Ha v Hb y => ?_⟩
  obtain ⟨rfl, hx⟩ := y
  obtain ⟨dx, ex, hd⟩ := d.get hx
  exact ⟨Same.refl _, dx, ex, fun w' k => hd.ky k⟩
theorem pid_list (h : PD X D e f) : PId false X D tg e (iL f) := PI.imp (pi_list h) fun σ H R ⟨w, E, T, Qh, Rr, hf, q⟩ => ⟨w, E, T, _, Rr, hf, fun x T' v H' s d hx => by
  cases x with
  | list ds =>
    obtain ⟨a, us, rfl, e, d2⟩ := df_list d
    exact ⟨a, rfl, ⟨us, SqL.of (hidL_off e).2⟩, q _ T' _ H' s (is_list e d2) hx⟩
  | _ => exact hx.elim⟩
theorem pid_tup (h : PD X D e f) : PId false X D tg e (iT f) := PI.imp (pi_tup h) fun σ H R ⟨w, E, T, Qh, Rr, hf, q⟩ => ⟨w, E, T, _, Rr, hf, fun x T' v H' s d hx => by
  cases x with
  | tuple ds =>
    obtain ⟨a, us, rfl, e, d2⟩ := df_tup d
    exact ⟨a, rfl, ⟨us, (tz_up e).sq⟩, q _ T' _ H' s (is_tup e d2) hx⟩
  | _ => exact hx.elim⟩
theorem pid_str (h : PD X D e f) : PId false X D tg e (iS f) := PI.imp (pi_str h) fun σ H R ⟨w, E, T, Qh, Rr, hf, q⟩ => ⟨w, E, T, _, Rr, hf, fun x T' v H' s d hx => by
  cases x with
  | str z =>
    cases d with
    | str _ k =>
      refine ⟨z, rfl, q _ T' _ H' s ⟨fun _ => True, fun i Ha v Hb => Hb = Ha ∧ ∃ c, z.cps[i]? = some c ∧ v = .str ⟨#[c]⟩, ?_, fun _ _ _ => trivial, fun i Ha v Hb y => ?_⟩ hx⟩
      · have hl : (signs z).length = z.cps.size := by
          unfold signs
          rw [List.length_map, Array.length_toList]
        rw [hl]
        exact walk_str
      · obtain ⟨rfl, c, hc, rfl⟩ := y
        have hc' : z.cps.toList[i]? = some c := by rw [Array.getElem?_toList]; exact hc
        refine ⟨Same.refl _, .str ⟨#[c]⟩, ?_, fun w' k2 => .str _ (sOk_one (sOk.sign k c (List.mem_of_getElem? hc')))⟩
        unfold signs
        rw [List.getElem?_map, hc']
        rfl
  | _ => exact hx.elim⟩
def rangeD (lo : Int) (n : Nat) : List PyData := (List.range n).map fun (i : Nat) => .int (lo + i)
def iR1 (f : DE) : DIt := fun E T Q => f E T fun x T' => match x with
  | .int j => (-(2 ^ 62) ≤ j ∧ j < 2 ^ 62) ∧ Q (rangeD 0 j.toNat) T'
  | _ => False
def iR2 (f f2 : DE) : DIt := fun E T Q => f E T fun x T' => f2 E T' fun y T2 => match x, y with
  | .int i, .int j => (-(2 ^ 62) ≤ i ∧ i < 2 ^ 62 ∧ -(2 ^ 62) ≤ j ∧ j < 2 ^ 62) ∧ Q (rangeD i (j - i).toNat) T2
  | _, _ => False
theorem is_range {K : PySem.W.Frag} {w : Wst} {H : Hp} {lo : Int} {n : Nat} : IsIt false K w H (Itr lo n) (rangeD lo n) := by
  have hl : (rangeD lo n).length = n := by
    unfold rangeD
    rw [List.length_map, List.length_range]
  refine ⟨_, fun i Ha v Hb => (Hb = Ha ∧ v = .int (lo + (i : Nat))) ∧ i < n, ?_, fun _ _ _ => trivial, fun i Ha v Hb y => ?_⟩
  · rw [hl]
    have w := walk_range (lo := lo) (n := n)
    exact ⟨w.goes, w.stops, fun i H x H' hi g y => ⟨w.yields i H x H' hi g y, hi⟩⟩
  · obtain ⟨⟨rfl, rfl⟩, hi⟩ := y
    refine ⟨Same.refl _, .int (lo + (i : Nat)), ?_, fun _ _ => .int _⟩
    unfold rangeD
    rw [List.getElem?_map, List.getElem?_range hi]
    rfl
theorem pid_range1 (hg : Gl X "range") (hm : X.mg "range" = none) (h : PD X D e f) (hs : starEach [e] X.env = [(false, eval e X.env)] := by rfl) (he : starEach [e] X.env = (false, eval e X.env) :: starEach [] X.env := by rfl) : PId false X D tg (.Call (.Name "range" p) [e] [] pos) (iR1 f) :=
  PI.imp (pi_range1 hg hm (pa_cons h pa_nil he) hs) fun σ H R ⟨w, E, T, Qh, Rr, hf, q⟩ => ⟨w, E, T, _, Rr, hf, fun x T' v H' s d hx => by
    cases x with
    | int j => exact ⟨j, by rw [df_int d], hx.1.1, hx.1.2, q _ T' _ H' s is_range hx.2⟩
    | _ => exact hx.elim⟩
theorem pid_range2 (hg : Gl X "range") (hm : X.mg "range" = none) (h : PD X D e f) (h2 : PD X D e2 f2) (hs : starEach [e, e2] X.env = [(false, eval e X.env), (false, eval e2 X.env)] := by rfl) (hs2 : starEach [e2] X.env = [(false, eval e2 X.env)] := by rfl)
    (he : starEach [e, e2] X.env = (false, eval e X.env) :: starEach [e2] X.env := by rfl) (he2 : starEach [e2] X.env = (false, eval e2 X.env) :: starEach [] X.env := by rfl) : PId false X D tg (.Call (.Name "range" p) [e, e2] [] pos) (iR2 f f2) :=
  PI.imp (pi_range2 hg hm (pa_cons h (pa_cons h2 pa_nil he2) he) hs hs2) fun σ H R ⟨w, E, T, Qh, Rr, hf, q⟩ => ⟨w, E, T, _, Rr, hf, fun x T' v H' s d hx => ⟨w, E, T', _, Rr.step s, hx, fun y T2 u H2 s2 d2 hy => by
    split at hy
    · exact ⟨_, _, by rw [df_int d, df_int d2], hy.1, q _ T2 _ H2 (s.trans s2) is_range hy.2⟩
    · exact hy.elim⟩⟩
/-! pairs -/
def enumD (ds : List PyData) : List PyData := (List.range ds.length).map fun (i : Nat) => .tuple [.int i, ds.getD i .none]
theorem enum_get {ds : List PyData} {i : Nat} {d : PyData} (h : ds[i]? = some d) : (enumD ds)[i]? = some (.tuple [.int (i : Nat), d]) := by
  have hi := (List.getElem?_eq_some_iff.mp h).1
  unfold enumD
  rw [List.getElem?_map, List.getElem?_range hi]
  show some (PyData.tuple [.int (i : Nat), ds.getD i .none]) = _
  rw [List.getD_eq_getElem?_getD, h]
  rfl
theorem enum_len (ds : List PyData) : (enumD ds).length = ds.length := by
  unfold enumD
  rw [List.length_map, List.length_range]
def iEL (f : DE) : DIt := fun E T Q => f E T fun x T' => match x with
  | .list ds => Q (enumD ds) T'
  | _ => False
def iET (f : DE) : DIt := fun E T Q => f E T fun x T' => match x with
  | .tuple ds => Q (enumD ds) T'
  | _ => False
theorem pair_ok {K : PySem.W.Frag} {w w' : Wst} {H Ha : Hp} {Tp : Addr} {u1 u2 : V} {d1 d2 : PyData} (n : Ha Tp = none) (k : Ky (hidL w.O H) (hidL w'.O Ha)) (h1 : Df K (hidL w.O H) u1 d1) (h2 : Df K (hidL w.O H) u2 d2) : YOk true K w' (upd Ha Tp (.tup [u1, u2])) (.ref Tp) (.tuple [d1, d2]) :=
  ⟨Tp, [u1, u2], [d1, d2], rfl, upd_same, .cons ((h1.ky k).ky (Ky.of (hidL_same (same_upd n)))) (.cons ((h2.ky k).ky (Ky.of (hidL_same (same_upd n)))) .nil), rfl⟩
theorem walk_enumT {K : PySem.W.Frag} {a : Addr} {xs : List V} : Walk (Ex.Itet K a) xs.length (fun H => SqT K H a xs) (YPair (fun i => some (.int (i : Nat))) (fun i => xs[i]?)) := by
  refine ⟨fun i _ hi q => ⟨xs, xs[i], q, by simp [hi]⟩, fun _ q => ⟨xs, q, Nat.le_refl _⟩, fun i H v H' _ q y => ?_⟩
  obtain ⟨T, x, h1, h2, h3, h4⟩ := y
  exact ⟨T, .int (i : Nat), x, h1, h2, h3, rfl, h4 xs q⟩
theorem enum_pair {K : PySem.W.Frag} {w : Wst} {H : Hp} {us : List V} {ds : List PyData} (d : DfAll K (hidL w.O H) us ds) : ∀ i Ha v Hb, YPair (fun i => some (.int (i : Nat))) (fun i => us[i]?) i Ha v Hb → Same Ha Hb ∧ ∃ d, (enumD ds)[i]? = some d ∧ ∀ w' : Wst, Ky (hidL w.O H) (hidL w'.O Ha) → YOk true K w' Hb v d := fun i Ha v Hb y => by
  obtain ⟨Tp, x, z, rfl, n, rfl, e1, e2⟩ := y
  obtain ⟨dz, ez, hz⟩ := d.get e2
  have e1' : x = .int (i : Nat) := (Option.some.inj e1).symm
  subst e1'
  exact ⟨same_upd n, _, enum_get ez, fun w' k => pair_ok n k (.int _) hz⟩
theorem pid_enumL (hg : Gl X "enumerate") (hm : X.mg "enumerate" = none) (h : PD X D e f) (hs : starEach [e] X.env = [(false, eval e X.env)] := by rfl) (he : starEach [e] X.env = (false, eval e X.env) :: starEach [] X.env := by rfl) : PId true X D (.Tuple elts kk tpos) (.Call (.Name "enumerate" p) [e] [] pos) (iEL f) :=
  PI.imp (pi_enum hg hm (pa_cons h pa_nil he) hs) fun σ H R ⟨w, E, T, Qh, Rr, hf, q⟩ => ⟨w, E, T, _, Rr, hf, fun x T' v H' s d hx => by
    cases x with
    | list ds =>
      obtain ⟨a, us, rfl, e, d2⟩ := df_list d
      refine ⟨a, us, rfl, SqL.of (hidL_off e).2, q _ T' _ H' s ⟨_, _, by rw [enum_len, ← d2.len]; exact walk_enum (xs := us), fun w' H' k => SqL.of (lst_stay e k), enum_pair d2⟩ hx⟩
    | _ => exact hx.elim⟩
theorem pid_enumT (hg : Gl X "enumerate") (hm : X.mg "enumerate" = none) (h : PD X D e f) (hs : starEach [e] X.env = [(false, eval e X.env)] := by rfl) (he : starEach [e] X.env = (false, eval e X.env) :: starEach [] X.env := by rfl) : PId true X D (.Tuple elts kk tpos) (.Call (.Name "enumerate" p) [e] [] pos) (iET f) :=
  PI.imp (Ex.pi_enumT hg hm (pa_cons h pa_nil he) hs) fun σ H R ⟨w, E, T, Qh, Rr, hf, q⟩ => ⟨w, E, T, _, Rr, hf, fun x T' v H' s d hx => by
    cases x with
    | tuple ds =>
      obtain ⟨a, us, rfl, e, d2⟩ := df_tup d
      refine ⟨a, us, rfl, (tz_up e).sq, q _ T' _ H' s ⟨_, _, by rw [enum_len, ← d2.len]; exact walk_enumT (xs := us), fun w' H' k => (tz_up (k.tz e)).sq, enum_pair d2⟩ hx⟩
    | _ => exact hx.elim⟩
def zipD : List PyData → List PyData → List PyData
  | x :: xs, y :: ys => .tuple [x, y] :: zipD xs ys
  | _, _ => []
theorem zip_len : ∀ (xs ys : List PyData), (zipD xs ys).length = min xs.length ys.length
  | [], _ => by simp [zipD]
  | _ :: _, [] => by simp [zipD]
  | x :: xs, y :: ys => by
    rw [zipD, List.length_cons, zip_len xs ys, List.length_cons, List.length_cons]
    omega
theorem zip_get : ∀ {xs ys : List PyData} {i : Nat} {x y : PyData}, xs[i]? = some x → ys[i]? = some y → (zipD xs ys)[i]? = some (.tuple [x, y])
  | [], _, _, _, _, h, _ => by simp at h
  | _ :: _, [], _, _, _, _, h => by simp at h
  | x :: xs, y :: ys, 0, _, _, h, g => by
    simp at h g
    subst h g
    rfl
  | x :: xs, y :: ys, i + 1, _, _, h, g => by
    rw [List.getElem?_cons_succ] at h g
    rw [zipD, List.getElem?_cons_succ]
    exact zip_get h g
def iZ (f f2 : DE) : DIt := fun E T Q => f E T fun x T' => f2 E T' fun y T2 => match x, y with
  | .list xs, .list ys => Q (zipD xs ys) T2
  | .tuple xs, .tuple ys => Q (zipD xs ys) T2
  | _, _ => False
theorem walk_zipT {K : PySem.W.Frag} {a b : Addr} {xs ys : List V} : Walk (RZ.ItzT K a b) (min xs.length ys.length) (fun H => SqT K H a xs ∧ SqT K H b ys) (YPair (fun i => xs[i]?) (fun i => ys[i]?)) := by
  refine ⟨fun i _ hi q => ?_, fun _ q => ⟨xs, ys, q.1, q.2, by omega⟩, fun i H v H' _ q y => ?_⟩
  · have h1 : i < xs.length := by omega
    have h2 : i < ys.length := by omega
    exact ⟨xs, ys, xs[i], ys[i], q.1, q.2, by simp [h1], by simp [h2]⟩
  · obtain ⟨T, x, z, h1, h2, h3, h4, h5⟩ := y
    exact ⟨T, x, z, h1, h2, h3, h4 xs q.1, h5 ys q.2⟩
theorem zip_pair {K : PySem.W.Frag} {w : Wst} {H : Hp} {us vs : List V} {ds es : List PyData} (d : DfAll K (hidL w.O H) us ds) (d2 : DfAll K (hidL w.O H) vs es) : ∀ i Ha v Hb, YPair (fun i => us[i]?) (fun i => vs[i]?) i Ha v Hb → Same Ha Hb ∧ ∃ d, (zipD ds es)[i]? = some d ∧ ∀ w' : Wst, Ky (hidL w.O H) (hidL w'.O Ha) → YOk true K w' Hb v d := fun i Ha v Hb y => by
  obtain ⟨Tp, x, z, rfl, n, rfl, e1, e2⟩ := y
  obtain ⟨dx, ex, hx⟩ := d.get e1
  obtain ⟨dz, ez, hz⟩ := d2.get e2
  exact ⟨same_upd n, _, zip_get ex ez, fun w' k => pair_ok n k hx hz⟩
theorem pid_zip (hg : Gl X "zip") (hm : X.mg "zip" = none) (h : PD X D e f) (h2 : PD X D e2 f2) (hs : starEach [e, e2] X.env = (false, eval e X.env) :: starEach [e2] X.env := by rfl) (he2 : starEach [e2] X.env = (false, eval e2 X.env) :: starEach [] X.env := by rfl) (hpl : (backTo pos (starEach [e2] X.env)).any (·.1) = false := by rfl) :
    PId true X D (.Tuple elts kk tpos) (.Call (.Name "zip" p) [e, e2] [] pos) (iZ f f2) :=
  PI.imp (RZ.pi_zipA hg hm (pa_cons h (pa_cons h2 pa_nil he2) hs) hs hpl) fun σ H R ⟨w, E, T, Qh, Rr, hf, q⟩ => ⟨w, E, T, _, Rr, hf, fun x T' v H' s d hx => ⟨w, E, T', _, Rr.step s, hx, fun y T2 u H2 s2 d2 hy => by
    split at hy
    · obtain ⟨a, us, rfl, e1, g1⟩ := df_list (d.ky s2.ky)
      obtain ⟨b, vs, rfl, e2, g2⟩ := df_list d2
      exact ⟨a, b, us, vs, rfl, .inl ⟨SqL.of (hidL_off e1).2, SqL.of (hidL_off e2).2, q _ T2 _ H2 (s.trans s2) ⟨fun H => SqL X.K H a us ∧ SqL X.K H b vs, _, by rw [zip_len, ← g1.len, ← g2.len]; exact walk_zip (xs := us) (ys := vs) rfl, fun w' H' k => ⟨SqL.of (lst_stay e1 k), SqL.of (lst_stay e2 k)⟩, zip_pair g1 g2⟩ hy⟩⟩
    · obtain ⟨a, us, rfl, e1, g1⟩ := df_tup (d.ky s2.ky)
      obtain ⟨b, vs, rfl, e2, g2⟩ := df_tup d2
      exact ⟨a, b, us, vs, rfl, .inr ⟨(tz_up e1).sq, (tz_up e2).sq, q _ T2 _ H2 (s.trans s2) ⟨fun H => SqT X.K H a us ∧ SqT X.K H b vs, _, by rw [zip_len, ← g1.len, ← g2.len]; exact walk_zipT (xs := us) (ys := vs), fun w' H' k => ⟨(tz_up (k.tz e1)).sq, (tz_up (k.tz e2)).sq⟩, zip_pair g1 g2⟩ hy⟩⟩
    · exact hy.elim⟩⟩
end
/-! ### for -/
def dFor (γ : DG) (body : DS) : List PyData → DS
  | [] => fun E T D => D.nx E T
  | x :: xs => fun E T D => γ x E fun E' => body E' T { D with nx := fun E2 T2 => dFor γ body xs E2 T2 D, ct := fun E2 T2 => dFor γ body xs E2 T2 D, bk := D.nx }
def dForS (f : DIt) (γ : DG) (body : DS) : DS := fun E T D => f E T fun xs T' => dFor γ body xs E T' D
section
variable {X : Cx} {D : DC} {tg iter : Expr} {κ : Bool} {vs : List Nat} {γ : DG} {f : DIt} {g : DS} {body : List Stmt} {pos : Pos}
theorem drop_at {α : Type} {xs : List α} {i : Nat} {d : α} (h : xs[i]? = some d) : xs.drop i = d :: xs.drop (i + 1) := by
  obtain ⟨hi, e⟩ := List.getElem?_eq_some_iff.mp h
  rw [List.drop_eq_getElem_cons hi, e]
theorem psd_for (hp : PassesOwn (model X.prog X.w) X.A X.env X.xe) (hc : X.calm = true) (hi : PId κ X D tg iter f) (hg : PGy κ X D tg vs γ) (hb : PSsd X D body g) (hs : ∀ x, foldedSetIterable iter X.env x = pure x := by intro _; rfl) : PSd X D (.For tg iter body [] pos) (dForS f γ g) :=
  PS.imp (ps_for hp hc hi hg hb hs) fun Dn σ H ⟨w, E, T, Dh, R, hgg, l⟩ => ⟨w, E, T, _, R, hgg, fun xs T1 J H1 s1 it h1 => by
    obtain ⟨Gd, Y, wk, hG, hY⟩ := it
    refine for_it wk (fun i σ' H' => ∃ w' E' T', Ext w H1 w' H' ∧ Rp X.K D w' E' T' σ' H' ∧ dFor γ g (xs.drop i) E' T' Dh) ⟨w, E, T1, .refl, R.step s1, h1⟩ (fun i σ' H' _ h => ?_) (fun i v σ' Ha Hb hi h y => ?_) (fun σ' H' h => ?_)
    · obtain ⟨w', _, _, x, _⟩ := h
      exact hG w' H' x.ky
    · obtain ⟨w', E', T', x, R', hd⟩ := h
      obtain ⟨sm, d, e, yo⟩ := hY i Ha v Hb y
      rw [drop_at e] at hd
      have s2 := R'.wd.stp sm
      refine ⟨w', E', T', d, _, R'.step s2, yo w' x.ky, hd, fun E2 σ2 R2 _ h2 => ⟨w', E2, T', _, R2, h2, fun w3 E3 T3 σ3 H3 x3 R3 n3 => ⟨w3, E3, T3, x.trans (s2.ext.trans x3), R3, n3⟩, fun w3 T3 r v3 H3 x3 W3 r3 n3 => l.rt w3 T3 r v3 H3 (s1.ext.trans (x.trans (s2.ext.trans x3))) W3 r3 n3, fun w3 E3 T3 σ3 H3 x3 R3 n3 => l.nx w3 E3 T3 σ3 H3 (s1.ext.trans (x.trans (s2.ext.trans x3))) R3 n3, fun w3 E3 T3 σ3 H3 x3 R3 n3 => ⟨w3, E3, T3, x.trans (s2.ext.trans x3), R3, n3⟩⟩⟩
    · obtain ⟨w', E', T', x, R', hd⟩ := h
      rw [List.drop_of_length_le (Nat.le_refl _)] at hd
      exact l.nx w' E' T' σ' H' (s1.ext.trans x) R' hd⟩
/-! while -/
def dWhile (t : DT) (g : DS) : DS := fun E T D => ∃ W : Nat → Env' → Nat → Prop, (∃ m, W m E T) ∧ ∀ m E T, W m E T → t E T fun b T1 => if b = true then g E T1 { D with nx := fun E2 T2 => ∃ m', m' < m ∧ W m' E2 T2, ct := fun E2 T2 => ∃ m', m' < m ∧ W m' E2 T2, bk := D.nx } else D.nx E T1
theorem psd_while {c : Expr} {t : DT} (hp : PassesOwn (model X.prog X.w) X.A X.env X.xe) (hc : PTd X D c t) (hb : PSsd X D body g) : PSd X D (.While c body [] pos) (dWhile t g) :=
  PS.imp (ps_while hp hc hb) fun Dn σ H ⟨w, E, T, Dh, R, ⟨W, ⟨m, h0⟩, turn⟩, l⟩ => ⟨fun m σ' H' => ∃ w' E' T', Ext w H w' H' ∧ Rp X.K D w' E' T' σ' H' ∧ W m E' T', ⟨m, w, E, T, .refl, R, h0⟩, fun m σ' H' ⟨w', E', T', x, R', hm⟩ => ⟨w', E', T', _, R', turn m E' T' hm, fun b T1 H1 s1 h1 => by
    cases b with
    | true => exact ⟨_, fun _ _ h => h, w', E', T1, _, R'.step s1, h1, fun w3 E3 T3 σ3 H3 x3 R3 ⟨m', hm', n3⟩ => ⟨m', hm', w3, E3, T3, x.trans (s1.ext.trans x3), R3, n3⟩, fun w3 T3 r v3 H3 x3 W3 r3 n3 => l.rt w3 T3 r v3 H3 (x.trans (s1.ext.trans x3)) W3 r3 n3, fun w3 E3 T3 σ3 H3 x3 R3 n3 => l.nx w3 E3 T3 σ3 H3 (x.trans (s1.ext.trans x3)) R3 n3, fun w3 E3 T3 σ3 H3 x3 R3 ⟨m', hm', n3⟩ => ⟨m', hm', w3, E3, T3, x.trans (s1.ext.trans x3), R3, n3⟩⟩
    | false => exact l.nx w' E' T1 σ' H1 (x.trans s1.ext) (R'.step s1) h1⟩⟩
end
end Dv
set_option Elab.async false
set_option linter.all false
set_option maxRecDepth 100000
set_option maxHeartbeats 4000000
namespace Dv
open PySem PySem.Spec PyProof.Rows L2
/-! ### comprehensions -/
def wipeE (E : Env') : List Nat → Env'
  | [] => E
  | v :: vs => (wipeE E vs).set v .no
theorem wipe_idem {σ : L2.St} {vs : List Nat} : wipe (wipe σ vs) vs = wipe σ vs := Wip.eq ⟨wipe_length σ vs, fun i hi => wipe_out hi⟩
section
variable {K : PySem.W.Frag} {D : DC} {w : Wst} {E : Env'} {σ : L2.St} {T : Nat} {H : Hp}
theorem Rp.unset {i : Nat} {o : Option V} (r : Rp K D w E T σ H) : Rp K D w (E.set i .no) T (σ.set i o) H := by
  refine ⟨r.wd, by rw [List.length_set, List.length_set, r.len], fun j y e => ?_, fun j k xs ys n e1 e2 => ?_, fun j xs e => ?_⟩
  rotate_right
  · rcases set_get e with ⟨_, z, _⟩ | ⟨_, e⟩
    · cases z
    · exact r.tg j xs e
  · rcases set_get e with ⟨rfl, rfl, hi⟩ | ⟨n, e⟩
    · trivial
    · rw [List.getElem?_set_ne (fun z => n z.symm)]
      exact r.sl j y e
  · rcases set_get e1 with ⟨_, z, _⟩ | ⟨_, e1⟩
    · cases z
    · rcases set_get e2 with ⟨_, z, _⟩ | ⟨_, e2⟩
      · cases z
      · exact r.inj j k xs ys n e1 e2
theorem Rp.wipe (r : Rp K D w E T σ H) : ∀ vs : List Nat, Rp K D w (wipeE E vs) T (L2.wipe σ vs) H
  | [] => r
  | v :: vs => (Rp.wipe r vs).unset
theorem wipeE_at {i : Nat} : ∀ {vs : List Nat} {y : DV}, i ∈ vs → (wipeE E vs)[i]? = some y → y = .no
  | [], _, h, _ => absurd h List.not_mem_nil
  | v :: vs, y, h, e => by
    rcases set_get (show ((wipeE E vs).set v .no)[i]? = some y from e) with ⟨_, z, _⟩ | ⟨n, e⟩
    · exact z
    · rcases List.mem_cons.mp h with z | h
      · exact absurd z n
      · exact wipeE_at h e
/-- slots that hold nothing may hold anything -/
theorem Rp.wip {vs : List Nat} {σ' : L2.St} (r : Rp K D w (wipeE E vs) T σ H) (h : Wip vs σ σ') : Rp K D w (wipeE E vs) T σ' H := by
  refine ⟨r.wd, h.1.trans r.len, fun i x e => ?_, r.inj, r.tg⟩
  by_cases hi : i ∈ vs
  · rw [wipeE_at hi e]
    trivial
  · rw [h.2 i hi]
    exact r.sl i x e
theorem Rp.updF {l : Addr} {us : List V} (r : Rp K D w E T σ H) (hl : l ∈ w.O) (ho : w.off l) (na : (∀ j xs, E[j]? = some (.own xs) → w.adr j ≠ l) ∧ w.tag l = 0) : Rp K D w E T σ (L2.upd H l (.lst us)) := by
  have hh : hidL w.O (L2.upd H l (.lst us)) = hidL w.O H := hidL_upd hl
  refine ⟨⟨by rw [hh]; exact r.wd.ky, fun P hP => by rw [hh]; exact r.wd.tab P hP, fun a ha => ?_, fun h => ⟨(r.wd.pur h).1.of (upd_ne (ho h).1.symm) (upd_ne (ho h).2.symm), (r.wd.pur h).2⟩, r.wd.exl⟩, r.len, fun j y ej => ?_, r.inj, r.tg⟩
  · by_cases z : a = l
    · rw [z]
      exact ⟨us, upd_same⟩
    · rw [upd_ne z]
      exact r.wd.lst a ha
  · have h := r.sl j y ej
    cases y with
    | no => trivial
    | d x =>
      obtain ⟨v, g1, g2⟩ := h
      exact ⟨v, g1, by rw [hh]; exact g2⟩
    | own zs =>
      obtain ⟨g1, g2, g3, us', g4, g5⟩ := h
      exact ⟨g1, g2, g3, us', by rw [upd_ne (na.1 j zs ej)]; exact g4, by rw [hh]; exact g5⟩
    | pur => exact h
    | exc C =>
      obtain ⟨a, g1, g2⟩ := h
      exact ⟨a, g1, by rw [hh]; exact g2⟩
    | tr t =>
      obtain ⟨v, as, g1, g2, g3, g4⟩ := h
      exact ⟨v, as, g1, by rw [hh]; exact TrOk.step Ky.refl t v as (fun a ha => upd_ne fun z => absurd (g4 a ha).2.2 (by rw [z, na.2]; omega)) g2, g3, g4⟩
theorem Rp.growF {l : Addr} {us : List V} {T' : Nat} {H' : Hp} {n : Nat} (r : Rp K D w E T σ H) (s : StpO w T H T' H' l us) (hn : E.length ≤ n) : Rp K D (w.grow n l) E T' σ H' ∧ ((∀ j xs, E[j]? = some (.own xs) → (w.grow n l).adr j ≠ l) ∧ (w.grow n l).tag l = 0) := by
  have h1 : E.set n (.own []) = E := List.set_eq_of_length_le hn
  have h2 : σ.set n (some (.ref l)) = σ := List.set_eq_of_length_le (by rw [r.len]; exact hn)
  have nadr : ∀ j zs, E[j]? = some (.own zs) → (w.grow n l).adr j ≠ l := fun j zs e z => by
    have hj := (List.getElem?_eq_some_iff.mp e).1
    have e2 : (w.grow n l).adr j = w.adr j := if_neg (by omega)
    rw [e2] at z
    obtain ⟨_, g2, _⟩ := r.sl j _ e
    rw [z] at g2
    exact s.new g2
  have r1 := r.step s.stp
  refine ⟨⟨⟨r.wd.ky.trans s.ky, fun P hP => s.ky.tb P (r.wd.tab P hP), fun a ha => ?_, fun h => ⟨s.pur h, List.mem_cons_of_mem _ (r.wd.pur h).2.1, List.mem_cons_of_mem _ (r.wd.pur h).2.2⟩, r.wd.exl⟩, r.len, fun j y e => ?_, fun j k xs ys n' e1 e2 => ?_, fun j zs e => ?_⟩, nadr, if_pos rfl⟩
  rotate_right
  · have hj := (List.getElem?_eq_some_iff.mp e).1
    have e2 : (w.grow n l).adr j = w.adr j := if_neg (by omega)
    rw [e2]
    show (if w.adr j = l then 0 else w.tag (w.adr j)) = 0
    split
    · rfl
    · exact r.tg j zs e
  · rcases List.mem_cons.mp ha with rfl | ha
    · exact ⟨us, s.at_⟩
    · exact r1.wd.lst a ha
  · have h := r.sl j y e
    have hj := (List.getElem?_eq_some_iff.mp e).1
    have e2 : (w.grow n l).adr j = w.adr j := if_neg (by omega)
    cases y with
    | no => trivial
    | d x =>
      obtain ⟨v, e1, e2⟩ := h
      exact ⟨v, e1, e2.ky s.ky⟩
    | own zs =>
      obtain ⟨g1, g2, g3, us', g4, g5⟩ := h
      show _ ∧ _ ∧ _ ∧ _
      rw [e2]
      exact ⟨g1, List.mem_cons_of_mem _ g2, g3, us', by rw [s.same _ g2 g3]; exact g4, g5.ky s.ky⟩
    | pur => exact h
    | exc C =>
      obtain ⟨a, g1, g2⟩ := h
      exact ⟨a, g1, s.ky _ _ (fun _ z => nomatch z) g2⟩
    | tr t =>
      obtain ⟨v, as, g1, g2, g3, g4⟩ := h
      refine ⟨v, as, g1, TrOk.step s.ky t v as (fun a ha => s.same a (g4 a ha).1 (g4 a ha).2.1) g2, g3, fun a ha => ⟨List.mem_cons_of_mem _ (g4 a ha).1, (g4 a ha).2.1, ?_⟩⟩
      show (if a = l then 0 else w.tag a) = _
      rw [if_neg (show ¬ a = l from fun z => s.new (by rw [← z]; exact (g4 a ha).1))]
      exact (g4 a ha).2.2
  · have hj := (List.getElem?_eq_some_iff.mp e1).1
    have hk := (List.getElem?_eq_some_iff.mp e2).1
    have a1 : (w.grow n l).adr j = w.adr j := if_neg (by omega)
    have a2 : (w.grow n l).adr k = w.adr k := if_neg (by omega)
    rw [a1, a2]
    exact r.inj j k xs ys n' e1 e2
end
def dLcGo (γ : DG) (tt : DT) (te : DE) : List PyData → Env' → Nat → List PyData → (List PyData → Nat → Prop) → Prop
  | [], _, T, acc, Q => Q acc T
  | x :: xs, E, T, acc, Q => γ x E fun E' => tt E' T fun b T1 => if b = true then te E' T1 fun y T2 => acc.length < 1000000 ∧ dLcGo γ tt te xs E T2 (acc ++ [y]) Q else dLcGo γ tt te xs E T1 acc Q
def dLc (vs : List Nat) (f : DIt) (γ : DG) (tt : DT) (te : DE) : DOE := fun E T Q => f E T fun xs T1 => dLcGo γ tt te xs (wipeE E vs) T1 [] Q
section
variable {X : Cx} {D : DC} {tg iter elt : Expr} {ifs : List Expr} {κ : Bool} {γ : DG} {f : DIt} {tt : DT} {te : DE} {pos : Pos} {scope : Scope} {own : List (Str × Nat)}
def PTsd (X : Cx) (D : DC) (ifs : List Expr) (t : DT) : Prop := PTs X ifs (tT X.K D t)
def dYes : DT := fun _ T Q => Q true T
theorem PTs.imp {t t' : TT} (h : PTs X ifs t) (i : ∀ σ H Q, t' σ H Q → t σ H Q) : PTs X ifs t' := ⟨fun pins s σ H Q I q => h.run pins s σ H Q I (i σ H Q q)⟩
theorem ptsd_nil : PTsd X D [] dYes := PTs.imp pts_nil fun σ H Q ⟨w, E, T, Qh, R, hf, q⟩ => q true T H R.wd.refl hf
theorem ptsd_one {c : Expr} {t : DT} (h : PTd X D c t) : PTsd X D [c] t := pts_one h
theorem lc_run {vs : List Nat} {σ : L2.St} {H : Hp} {Q : VK} (h : tO X.K D (dLc vs f γ tt te) σ H Q) : tLc (tI κ X.K D f) (tGy κ X.K D vs γ) (tT X.K D tt) (tD X.K D te) vs σ H Q := by
  obtain ⟨w, E, T, Qh, R, hf, q⟩ := h
  refine ⟨w, E, T, _, R, hf, fun xs T1 J H1 s1 it h1 Dl nD => ?_⟩
  obtain ⟨Gd, Y, wk, hG, hY⟩ := it
  have R1 := (R.step s1).wipe vs
  have so := stpO_new (vs := []) R1.wd nD
  obtain ⟨R2, nad⟩ := R1.growF so (Nat.le_refl _)
  generalize hw : w.grow (wipeE E vs).length Dl = w1 at R2 nad
  have wO : w1.O = Dl :: w.O := by rw [← hw]; rfl
  have wof : ∀ {a : Addr}, w.off a → w1.off a := fun {a} h => by rw [← hw]; exact h
  have wp : w1.p = w.p ∧ w1.c = w.c ∧ w1.hp = w.hp := by rw [← hw]; exact ⟨rfl, rfl, rfl⟩
  have DlO : Dl ∈ w1.O := by rw [wO]; exact List.mem_cons_self
  have Dlo : w1.off Dl := wof so.off
  refine lc_it wk (fun i H' => ∃ T' acc accv, Rp X.K D w1 (wipeE E vs) T' (wipe σ vs) H' ∧ H' Dl = some (.lst accv) ∧ DfAll X.K (hidL w1.O H') accv acc ∧ Ky (hidL w.O H1) (hidL w1.O H') ∧ (∀ a ∈ w.O, w.off a → H' a = H1 a) ∧ dLcGo γ tt te (xs.drop i) (wipeE E vs) T' acc Qh)
    ⟨T1, [], [], R2, upd_same, .nil, by rw [wO]; exact so.ky, so.same, h1⟩ (fun i H' _ h => ?_) (fun i v Ha Hb hi h y => ?_) (fun H' h => ?_)
  · obtain ⟨_, _, _, _, _, _, k, _⟩ := h
    exact hG w1 H' k
  · obtain ⟨T', acc, accv, R3, hD, dA, k, sm0, hd⟩ := h
    obtain ⟨sm, d, e, yo⟩ := hY i Ha v Hb y
    rw [drop_at e] at hd
    have s2 := R3.wd.stp sm
    refine ⟨w1, wipeE E vs, T', d, _, R3.step s2, yo w1 k, hd, fun E2 σ2 R4 wi h2 => ⟨by rw [wi.eq, wipe_idem], w1, E2, T', _, R4, h2, fun b T3 H3 s3 h3 => ?_⟩⟩
    have mv : ∀ {T4 : Nat} {H4 : Hp}, Stp w1 T' Ha T4 H4 → H4 Dl = some (.lst accv) ∧ DfAll X.K (hidL w1.O H4) accv acc ∧ Ky (hidL w.O H1) (hidL w1.O H4) ∧ (∀ a ∈ w.O, w.off a → H4 a = H1 a) := fun {T4 H4} st =>
      ⟨by rw [st.same Dl DlO Dlo]; exact hD, dA.ky st.ky, k.trans st.ky, fun a ha ho => (st.same a (by rw [wO]; exact List.mem_cons_of_mem _ ha) (wof ho)).trans (sm0 a ha ho)⟩
    cases b with
    | true =>
      refine ⟨w1, E2, T3, _, R4.step s3, h3, fun y T4 v4 H4 s4 d4 h4 => ?_⟩
      have st := (s2.trans s3).trans s4
      obtain ⟨m1, m2, m3, m4⟩ := mv st
      have hh : hidL w1.O (upd H4 Dl (.lst (accv ++ [v4]))) = hidL w1.O H4 := hidL_upd DlO
      refine ⟨accv, m1, lim_lt (by rw [m2.len]; exact h4.1), T4, acc ++ [y], accv ++ [v4], ((R3.step st).updF DlO Dlo nad), upd_same, by rw [hh]; exact m2.append (.cons d4 .nil), by rw [hh]; exact m3, fun a ha ho => ?_, h4.2⟩
      rw [upd_ne (fun z : a = Dl => so.new (by rw [← z]; exact ha))]
      exact m4 a ha ho
    | false =>
      have st := s2.trans s3
      obtain ⟨m1, m2, m3, m4⟩ := mv st
      exact ⟨T3, acc, accv, R3.step st, m1, m2, m3, m4, h3⟩
  · obtain ⟨T', acc, accv, R3, hD, dA, k, sm0, hd⟩ := h
    rw [List.drop_of_length_le (Nat.le_refl _)] at hd
    rw [wO] at k dA
    refine q acc T' Dl accv H' (StpO.pre s1 ⟨so.new, so.off, hD, k, sm0, fun h => ?_⟩) dA hd
    have := (R3.wd.pur (by rw [wp.2.2]; exact h)).1
    rw [wp.1, wp.2.1] at this
    exact this
theorem pdo_lc (hc : X.calm = true) (hN : X.N.Nodup) (hi : PId κ X D tg iter f) (ok : BlkOk X.N X.env.scope scope own)
    (hg : ∀ (s : Shared) (H : Hp) (C : Addr) (cl : List (Str × Addr)) (fp : List Addr), PGy κ (X.blk s H scope (compEnvC scope cl C X.env) fp) D tg (own.map (·.2)) γ) (ht : ∀ (s : Shared) (H : Hp) (C : Addr) (cl : List (Str × Addr)) (fp : List Addr), PTsd (X.blk s H scope (compEnvC scope cl C X.env) fp) D ifs tt)
    (he : ∀ (s : Shared) (H : Hp) (C : Addr) (cl : List (Str × Addr)) (fp : List Addr), PD (X.blk s H scope (compEnvC scope cl C X.env) fp) D elt te) (hs : ∀ x, foldedSetIterable iter X.env x = pure x := by intro _; rfl) :
    PDo X D (.ListComp elt [⟨tg, iter, ifs, 0⟩] scope pos) (dLc (own.map (·.2)) f γ tt te) := PE.imp (pe_lc (g := tGy κ X.K D (own.map fun x : Str × Nat => x.2) γ) (tt := tT X.K D tt) (te := tD X.K D te) hc hN hi ok hg ht he hs) fun σ H Q h => lc_run h
/-- x = [..] -/
theorem psd_setLc {i : Nat} {y : Str} {py spos : Pos} (hc : X.calm = true) (hN : X.N.Nodup) (hy : X.N[i]? = some y) (hyl : X.env.scope.names.lookup y = some .local) (hsw : swapsWith (.ListComp elt [⟨tg, iter, ifs, 0⟩] scope pos) (some (.Name y py)) spos.line X.env = pure true) (hi : PId κ X D tg iter f) (ok : BlkOk X.N X.env.scope scope own)
    (hg : ∀ (s : Shared) (H : Hp) (C : Addr) (cl : List (Str × Addr)) (fp : List Addr), PGy κ (X.blk s H scope (compEnvC scope cl C X.env) fp) D tg (own.map (·.2)) γ) (ht : ∀ (s : Shared) (H : Hp) (C : Addr) (cl : List (Str × Addr)) (fp : List Addr), PTsd (X.blk s H scope (compEnvC scope cl C X.env) fp) D ifs tt)
    (he : ∀ (s : Shared) (H : Hp) (C : Addr) (cl : List (Str × Addr)) (fp : List Addr), PD (X.blk s H scope (compEnvC scope cl C X.env) fp) D elt te) (hs : ∀ x, foldedSetIterable iter X.env x = pure x := by intro _; rfl) :
    PSd X D (.Assign [.Name y py] (.ListComp elt [⟨tg, iter, ifs, 0⟩] scope pos) spos) (dSetO i (dLc (own.map (·.2)) f γ tt te)) := PS.imp (ps_setLc (g := tGy κ X.K D (own.map fun x : Str × Nat => x.2) γ) (tt := tT X.K D tt) (te := tD X.K D te) hc hN hy hyl hsw hi ok hg ht he hs) fun Dn σ H ⟨w, E, T, Dh, R, hgg, l⟩ =>
      lc_run (Q := fun x H1 => gName i x σ H1 Dn.nx) ⟨w, E, T, _, R, hgg, fun xs T' l' vs H' s d hx => l.nx _ _ T' _ H' s.ext (R.setO s d) hx⟩
end
/-! ### all(.. for ..) -/
section
variable {D : DC} {w : Wst} {T : Nat} {H H' : Hp} {P : Addr}
theorem stp_tab (d : Wd D w T H) (h : GxR.TabG (hidL w.O H) P) (t : GxR.Tabbed P H H') : Stp w T H T H' := by
  obtain ⟨qs, e, r⟩ := id h
  obtain ⟨nP, e'⟩ := hidL_off e
  refine ⟨⟨fun a o n g => ?_, fun a g => ?_⟩, fun a ha _ => t.2 a fun z => nP (z ▸ ha), fun hh => ?_⟩
  · obtain ⟨na, g2⟩ := hidL_off g
    rw [hidL_at na, t.2 a fun z => ?_]
    · exact g2
    · rw [z, e'] at g2
      exact n qs (Option.some.inj g2).symm
  · by_cases z : a = P
    · obtain ⟨q2, e2, r2⟩ := t.1
      exact ⟨q2, by rw [z, hidL_at nP]; exact e2, r2⟩
    · obtain ⟨q2, e2, r2⟩ := g
      obtain ⟨na, g2⟩ := hidL_off e2
      exact ⟨q2, by rw [hidL_at na, t.2 a z]; exact g2, r2⟩
  · exact (d.pur hh).1.of (t.2 _ fun z => nP (z ▸ (d.pur hh).2.1)) (t.2 _ fun z => nP (z ▸ (d.pur hh).2.2))
end
def dAll (vs : List Nat) (f : DIt) (γ : DG) (te : DE) : DE := fun E T Q => f E T fun xs T1 => ∃ pb : Nat → Bool, (∀ j x, xs[j]? = some x → γ x (wipeE E vs) fun E' => te E' T1 fun y T2 => y = .bool (pb j) ∧ T2 = T1) ∧ Q (.bool ((List.range xs.length).all pb)) T1
section
variable {X : Cx} {D : DC} {tg iter elt : Expr} {κ : Bool} {γ : DG} {f : DIt} {te : DE} {p pos gpos : Pos} {scope : Scope} {own : List (Str × Nat)} {c P : Addr} {k : Nat}
theorem pd_all (hr : Room (k + 1) X.A) (hg : Gl X "all") (hm : X.mg "all" = none) (hb : bootBuiltins "all" = some (.builtin "all")) (TB : GxR.TabB X.base X.mg c P) (hP : P ∈ D.tb) (hcode : X.env.code = .ref c) (S : Gx.GenN X.N X.env.scope scope own) (hN : X.N.Nodup) (hi : PId κ X D tg iter f)
    (ht : ∀ (C : Addr) (code : Value) (s : Shared) (H : Hp) (A' : Around) (fp : List Addr), PGy κ (Gx.gcx X s H A' (Gx.genv X scope C code) fp) D tg (own.map (·.2)) γ)
    (hel : ∀ (C : Addr) (code : Value) (s : Shared) (H : Hp) (A' : Around) (fp : List Addr), Room k A' → PD (Gx.gcx X s H A' (Gx.genv X scope C code) fp) D elt te)
    (hs : ∀ v, genFold iter X.env v = pure v)
    (he : starEach [.GeneratorExp elt [⟨tg, iter, [], 0⟩] scope gpos] X.env = (false, eval (.GeneratorExp elt [⟨tg, iter, [], 0⟩] scope gpos) X.env) :: starEach [] X.env := by rfl) :
    PD X D (.Call (.Name "all" p) [.GeneratorExp elt [⟨tg, iter, [], 0⟩] scope gpos] [] pos) (dAll (own.map (·.2)) f γ te) :=
  PE.imp (Gx.pe_allG (gt := tGy κ X.K D (own.map fun x : Str × Nat => x.2) γ) (te := tD X.K D te) hr hg hm hb TB hcode S hN hi ht hel hs he) fun σ H Q ⟨w, E, T, Qh, R, hf, q⟩ => ⟨w, E, T, _, R, hf, fun xs T1 J H1 s1 it h1 => by
    obtain ⟨Gd, Y, wk, hG, hY⟩ := it
    obtain ⟨pb, hp, hq⟩ := h1
    have R1 := R.step s1
    have hT := R1.wd.tab P hP
    obtain ⟨qs, eP, rP⟩ := id hT
    refine ⟨⟨qs, (hidL_off eP).2, rP⟩, xs.length, pb, fun j σ' H' => Rp X.K D w (wipeE E (own.map (·.2))) T1 σ' H' ∧ Stp w T1 H1 T1 H', fun H2 tt => ⟨(R1.step (stp_tab R1.wd hT tt)).wipe _, stp_tab R1.wd hT tt⟩, fun j σ' H' hj W => ?_, fun σ' H' W => wk.stops H' (hG w H' W.2.ky), fun j σ' H' W => q _ T1 _ H' (s1.trans W.2) (.bl _) hq⟩
    obtain ⟨R2, st⟩ := W
    refine ⟨wk.goes j H' hj (hG w H' st.ky), fun v H2 yy => ?_⟩
    obtain ⟨sm, d, e, yo⟩ := hY j H' v H2 (wk.yields j H' v H2 hj (hG w H' st.ky) yy)
    have s2 := R2.wd.stp sm
    refine ⟨w, _, T1, d, _, R2.step s2, yo w st.ky, hp j d e, fun E3 σ3 R3 wi h3 => ⟨w, E3, T1, _, R3, h3, fun y T2 v4 H4 s4 d4 h4 => ?_⟩⟩
    obtain ⟨rfl, rfl⟩ := h4
    exact ⟨df_bl d4, ((R2.step s2).step s4).wip wi, (st.trans s2).trans s4⟩⟩
end
/-! ### len(set(t)) of texts -/
def ndD : PyData → Option PyData
  | .tuple ds => if ds.all isStr = true ∧ ds.length ≤ 1000 then some (.int (Sx.nd (ds.map fun d => match d with
    | .str z => z
    | _ => ""))) else none
  | _ => none
theorem strs_of {K : PySem.W.Frag} {H : Hp} : ∀ {ds : List PyData} {vs : List V}, DfAll K H vs ds → ds.all isStr = true → vs = (ds.map fun d => match d with
    | .str z => z
    | _ => "").map V.str
  | [], _, h, _ => by cases h; rfl
  | d :: r, _, h, e => by
    cases h with
    | cons a b =>
      rw [List.all_cons, Bool.and_eq_true] at e
      cases d with
      | str z =>
        cases a
        rw [strs_of b e.2]
        rfl
      | _ => exact absurd e.1 (fun z => nomatch z)
theorem pd_lenSet {X : Cx} {D : DC} {a : Expr} {f : DE} {p p2 q pos : Pos} (hc : X.calm = true) (hg : Gl X "len") (hm : X.mg "len" = none) (hg2 : Gl X "set") (hm2 : X.mg "set" = none) (ha : PK X D a f) (na : starEach [a] X.env = (false, eval a X.env) :: starEach [] X.env := by rfl) :
    PD X D (.Call (.Name "len" p) [.Call (.Name "set" p2) [a] [] q] [] pos) (dFn ndD f) := PE.imp (Sx.pe_lenSetT hc hg hm hg2 hm2 ha na) fun σ H Q ⟨w, E, T, Qh, R, hf, q⟩ => ⟨w, E, T, _, R, hf, fun x T1 v H1 s1 d1 h1 => by
  obtain ⟨z, e, h2⟩ := optQ_some h1
  unfold ndD at e
  split at e
  · split at e
    · rename_i l
      cases e
      obtain ⟨t, vs, rfl, e1, d2⟩ := dk_tup d1
      rw [strs_of d2 l.1] at e1
      exact ⟨t, _, rfl, (tz_up e1).sq, by rw [List.length_map]; exact l.2, q _ T1 _ H1 s1 (.int _) h2⟩
    · cases e
  · cases e⟩
end Dv
set_option Elab.async false
set_option linter.all false
set_option maxRecDepth 100000
set_option maxHeartbeats 4000000
namespace Dv
open PySem PySem.Spec PyProof.Rows L2
/-! ### try: f(..), except C as e: j = e -/
def loseV : DV → DV
  | .own _ => .no
  | .tr _ => .no
  | v => v
def lose (E : Env') : Env' := E.map loseV
def dTryK (i j : Nat) (M : Addr → Prop) (G : DSp) (fa : DA) : DS := fun E T D => fa E T fun as T1 => G as T1 (fun _ T2 => D.nx E T2) (fun ex => M ex.C ∧ D.nx (((lose E).set j (.exc ex.C)).set i .no) ex.T)
section
variable {X : Cx} {D : DC} {w : Wst} {E : Env'} {σ : L2.St} {T : Nat} {H H2 : Hp}
theorem lose_at {m : Nat} {y : DV} (h : (lose E)[m]? = some y) : ∃ y0, E[m]? = some y0 ∧ y = loseV y0 := by
  unfold lose at h
  rw [List.getElem?_map] at h
  cases e : E[m]? with
  | none =>
    rw [e] at h
    cases h
  | some y0 =>
    rw [e] at h
    cases h
    exact ⟨y0, rfl, rfl⟩
theorem lose_no {m : Nat} {xs : List PyData} (h : (lose E)[m]? = some (.own xs)) : False := by
  obtain ⟨y0, _, e⟩ := lose_at h
  cases y0 <;> cases e
theorem pc_lst {ex : DX} (hP : w.hp = true → Pur H2 w.p w.c ex.T) : ∀ a ∈ w.pc, w.hp = true ∧ ∃ xs, H2 a = some (.lst xs) := fun a ha => by
  unfold Wst.pc pcL at ha
  split at ha
  · rename_i hh
    obtain ⟨cs, k, e1, e2, _⟩ := hP hh
    rcases List.mem_cons.mp ha with rfl | ha
    · exact ⟨hh, _, e1⟩
    · rw [List.mem_singleton.mp ha]
      exact ⟨hh, _, e2⟩
  · cases ha
theorem caught {i j : Nat} {a : Addr} {ex : DX} (hij : j ≠ i) (R : Rp X.K D w E T σ H) (ky : Ky (hidL w.O H) (hidL w.pc H2)) (hP : w.hp = true → Pur H2 w.p w.c ex.T) (na : H2 a = none) :
    Rp X.K D { w with O := w.pc } (((lose E).set j (.exc ex.C)).set i .no) ex.T (((σ.set i (some (.ref a))).set j (some (.ref a))).set i none) (L2.upd H2 a (Cv.xob a ex.C none)) ∧ Ext w H { w with O := w.pc } (L2.upd H2 a (Cv.xob a ex.C none)) := by
  have sm : Same H2 (L2.upd H2 a (Cv.xob a ex.C none)) := same_upd na
  have k2 : Ky (hidL w.O H) (hidL w.pc (L2.upd H2 a (Cv.xob a ex.C none))) := ky.trans (Ky.of (hidL_same sm))
  have pl := pc_lst hP
  have np : a ∉ w.pc := fun z => by
    obtain ⟨_, xs, e⟩ := pl a z
    rw [na] at e
    cases e
  have inpc : w.hp = true → w.p ∈ w.pc ∧ w.c ∈ w.pc := fun h => by
    have e : w.pc = [w.p, w.c] := if_pos h
    rw [e]
    exact ⟨List.mem_cons_self, List.mem_cons_of_mem _ List.mem_cons_self⟩
  refine ⟨⟨⟨R.wd.ky.trans k2, fun P hP => k2.tb P (R.wd.tab P hP), fun b hb => ?_, fun h => ⟨(hP h).same sm, inpc h⟩, R.wd.exl⟩, ?_, fun m y e => ?_, fun m n xs ys _ e _ => ?_, fun m xs e => ?_⟩, ⟨rfl, rfl, rfl, rfl, k2⟩⟩
  rotate_right
  · rcases set_get e with ⟨_, z, _⟩ | ⟨_, e⟩
    · cases z
    · rcases set_get e with ⟨_, z, _⟩ | ⟨_, e⟩
      · cases z
      · exact (lose_no e).elim
  · obtain ⟨_, xs, e⟩ := pl b hb
    exact ⟨xs, sm _ _ e⟩
  · simp only [List.length_set, lose, List.length_map, R.len]
  · rcases set_get e with ⟨rfl, rfl, hi⟩ | ⟨n, e⟩
    · trivial
    · rw [List.getElem?_set_ne (fun z => n z.symm)]
      rcases set_get e with ⟨rfl, rfl, hi⟩ | ⟨n2, e⟩
      · refine ⟨a, List.getElem?_set_self (by rw [List.length_set, R.len]; simpa [lose] using hi), ?_⟩
        show hidL w.pc _ a = _
        rw [hidL_at np]
        exact upd_same
      · rw [List.getElem?_set_ne (fun z => n2 z.symm), List.getElem?_set_ne (fun z => n z.symm)]
        obtain ⟨y0, e0, rfl⟩ := lose_at e
        have h := R.sl m y0 e0
        cases y0 with
        | no => trivial
        | own _ => trivial
        | tr _ => trivial
        | d x =>
          obtain ⟨v, g1, g2⟩ := h
          exact ⟨v, g1, g2.ky k2⟩
        | pur => exact h
        | exc C =>
          obtain ⟨b, g1, g2⟩ := h
          exact ⟨b, g1, k2 _ _ (fun _ z => nomatch z) g2⟩
  · rcases set_get e with ⟨_, z, _⟩ | ⟨_, e⟩
    · cases z
    · rcases set_get e with ⟨_, z, _⟩ | ⟨_, e⟩
      · cases z
      · exact (lose_no e).elim
variable {x n cn : Str} {c : Value} {i j : Nat} {st0 : Stmt} {np pos p1 p2 p3 : Pos} {e : Expr} {es : List Expr} {fa : DA} {G : DSp} {k : Nat} {ps : List Str} {p4 : Pos}
theorem psd_tryK (hst : X.stack = X.env :: X.outer) (hfr : X.env.frame = some X.env.locals) (hex : X.ex = []) (nd : X.N.Nodup) (hni : X.N[i]? = some n) (hnl : X.env.kindOf n = some .local) (hnm : Names X cn c) (hij : j ≠ i) (hi : i < X.N.length)
    (F : AtD X.prog X.w X.K X.mg X.base k D.tb x ps G) (hr : Room k X.A) (hg : ∀ pn xe, Gl (X.tr pn xe) x) (ha : ∀ pn xe, PAd (X.tr pn xe) D (e :: es) fa)
    (hsuite : ∀ (a : Addr) (oe : Obj) (cls : Value) (d : Option Addr) (pn : List (Addr × Obj)), Zc cls d oe → (∃ vs, oe.data = .fields vs) → PSs (X.suite a ((a, oe) :: pn)) [st0] (fun D σ H => ∃ v, σ[i]? = some (some v) ∧ D.nx (σ.set j (some v)) H))
    (hdb : (x == ("__debug__" : Str)) = false := by decide)
    (he : ∀ pn xe, starEach (e :: es) (X.tr pn xe).env = (false, eval e (X.tr pn xe).env) :: starEach es (X.tr pn xe).env := by intros; rfl) (hpl : ∀ pn xe, (backTo p1 (starEach es (X.tr pn xe).env)).any (·.1) = false := by intros; rfl) :
    PSd X D (.Try [.Expr (.Call (.Name x p2) (e :: es) [] p1) p3] [.ExceptHandler (some (.Name cn np)) (some n) [st0] p4] [] [] pos) (dTryK i j (fun C => PySem.W.exmOne X.K (.ref C) c = some true) G fa) := by
  obtain ⟨f, fd, h1, h2, h3, h4⟩ := F.ex
  have key := Cv.ps_try_keep (X := X) (x := cn) (n := n) (c := c) (i := i) (st0 := st0) (su := []) (np := np) (pos := pos) (pos2 := p4) (ts := fun _ _ _ D σ H => ∃ v, σ[i]? = some (some v) ∧ D.nx (σ.set j (some v)) H) hst hfr hex nd hni hnl hnm
    (fun W pn xe tk _ => pss_one (ps_expr (pos := p3) (pe_callHS (X := X.tr pn xe) (p := p2) (sp := spF X.K D.tb G) (t := tA X.K D fa) (E := WE W) h1 hr (hg pn xe) h4 h2 h3 .nil (fun σ => passAt tk σ) (ha pn xe) hdb (he pn xe) (hpl pn xe)))) hsuite
  refine ⟨fun pins s σ H Dn I q => key.run pins s σ H Dn I ?_⟩
  obtain ⟨w, Ev, T, Dh, R, hf, l⟩ := q
  have il : i < σ.length := by rw [I.len]; exact hi
  refine ⟨w, Ev, T, _, R, hf, fun as T1 vs H1 s1 d1 h5 => ?_⟩
  have R1 := R.step s1
  refine call_runS (X := X) (fun _ h => h) (fun ex H' ky hP hM => ?_) R1.wd d1 h5 (fun x T' v H' s df hq => l.nx w Ev T' σ H' (s1.trans s).ext (R1.step s) hq) (fun xs T' lo us H' s df hq => l.nx w Ev T' σ H' (s1.trans s.stp).ext (R1.step s.stp) hq)
  obtain ⟨m1, m2⟩ := hM
  refine ⟨m1, ex.C, rfl, fun a na => ⟨.ref a, List.getElem?_set_self il, ?_⟩⟩
  obtain ⟨r1, x1⟩ := caught (i := i) (j := j) hij R1 ky hP na
  exact l.nx _ _ ex.T _ _ (s1.ext.trans x1) r1 m2
/-- isinstance(j, C), j an exception that was caught -/
def dIsx (j : Nat) (M : Addr → Bool → Prop) : DE := fun E T Q => match E[j]? with
  | some (.exc C) => ∃ b, M C b ∧ Q (.bool b) T
  | _ => False
theorem pd_isx {e : Expr} {cv : V} {u : Value} (k : ClsV cv u) (h : PE X e (fun σ H Q => ∃ v, σ[j]? = some (some v) ∧ Cv.rIs0 X.K [v, cv] H Q)) : PD X D e (dIsx j fun C b => ExcC X.K C ∧ PySem.W.kitOne X.K (.ref C) u = some b) := PE.imp h fun σ H Q ⟨w, E, T, Qh, R, hf, q⟩ => by
  unfold dIsx at hf
  split at hf
  · rename_i C e0
    obtain ⟨b, ⟨x1, x2⟩, hq⟩ := hf
    obtain ⟨a, e1, e2⟩ := R.sl j _ e0
    exact ⟨.ref a, e1, a, C, cv, u, b, rfl, (hidL_off e2).2, k, x1, x2, q (.bool b) T (.bl b) H R.wd.refl (.bl b) hq⟩
  · exact hf.elim
end
end Dv
set_option Elab.async false
set_option linter.all false
set_option maxRecDepth 100000
set_option maxHeartbeats 4000000
namespace Dv
open PySem PySem.Spec PyProof.Rows L2 Cv
section
variable {X : Cx}
/-- repr(x), x any data, where nothing is being shown -/
theorem call_reprV (hg : X.A.guards = some []) : CallR X (.builtin "repr") (fun xs H Q => ∃ (v : V) (d : PyData), xs = [v] ∧ Dp X.K H v d ∧ d.showable = true ∧ d.hasDict = false ∧ X.A.units + (d.depth + 1) < cLine ∧ d.shown.length ≤ sizeLine ∧ Q (.str d.shown) H) := by
  intro pins s σ H xs us Q I r h
  obtain ⟨v, d, rfl, hd, h1, h2, h3, h4, q⟩ := h
  cases hd with
  | non =>
    obtain ⟨u, rfl, rx⟩ := vals1 r
    obtain rfl : u = Value.none := rx
    exact PySem.P.repr_of_none ⟨.str _, H, I.tok _, ⟨_, rfl⟩, q⟩
  | bl b =>
    obtain ⟨u, rfl, rx⟩ := vals1 r
    obtain rfl : u = Value.bool b := rx
    refine PySem.P.repr_of_bool ⟨.str _, H, I.tok _, ⟨_, rfl⟩, ?_⟩
    cases b
    · exact q
    · exact q
  | int i =>
    obtain ⟨u, rfl, t, rfl⟩ := vals1 r
    exact PySem.P.repr_of_int (by simpa only [PyData.showable, decide_eq_true_iff] using h1) ⟨.str _, H, I.tok _, ⟨_, rfl⟩, q⟩
  | str z =>
    obtain ⟨u, rfl, t, rfl⟩ := vals1 r
    exact PySem.P.repr_of_str ⟨.str _, H, I.tok _, ⟨_, rfl⟩, q⟩ h4
  | lst a b => exact call_reprD hg pins s σ H _ us Q I r ⟨_, _, rfl, .lst a b, h1, h2, h3, h4, q⟩
  | tup a b => exact call_reprD hg pins s σ H _ us Q I r ⟨_, _, rfl, .tup a b, h1, h2, h3, h4, q⟩
def reprD : PyData → Option PyData := fun x => if x.showable = true ∧ x.hasDict = false ∧ x.depth ≤ 100 ∧ x.shown.length ≤ 1000000 ∧ sOk x.shown = true then some (.str x.shown) else none
theorem cad_repr {k : Nat} (hg : X.A.guards = some []) (hr : Room k X.A) : CaD X (.builtin "repr") reprD := by
  refine ⟨_, call_reprV hg, fun w H v x z Q hO dx e q => ?_⟩
  unfold reprD at e
  split at e
  · rename_i h
    cases e
    exact ⟨v, x, rfl, dx.dp, h.1, h.2.1, by have := hr.un; omega, Nat.le_trans h.2.2.2.1 lim_line, q _ H (Same.refl _) (.str _ h.2.2.2.2)⟩
  · cases e
end
/-! ### the law: a purse from its script, then all by data -/
def spLaw (K : PySem.W.Frag) (tb : List Addr) : Sp := fun vs H Q _ => ∃ (a : Addr) (ns : List Int), vs = [.ref a] ∧ SqL K H a (ns.map V.int) ∧ (∀ P ∈ tb, GxR.TabG H P) ∧ ∀ H', Q (.bl true) H'
def lawE (N : List Str) : Env' := (List.replicate N.length DV.no).set 1 .pur
section
variable {P : Program} {w : World} {K : PySem.W.Frag} {mg : Str → Option Value} {base : Heap} {tb : List Addr}
theorem law_rp {N : List Str} {a p c : Addr} {H H' : Hp} {D : DC} (h1 : 1 < N.length) (hs : Same H H') (np : H p = none) (nc : H c = none) (hP : Cv.Pur H' p c 0) (ht : ∀ P ∈ D.tb, GxR.TabG H P) (hE : ∀ ex, ¬ D.Eh ex) :
    Rp K D ⟨hidL [p, c] H', [p, c], fun _ => 0, fun _ => 0, p, c, true⟩ (lawE N) 0 ((L2.start N [.ref a]).set 1 (some (.ref p))) H' := by
  have ky : Same H (hidL [p, c] H') := fun b o e => by
    rw [hidL_at (fun z => by
      rcases List.mem_cons.mp z with rfl | z
      · rw [np] at e
        cases e
      · rw [List.mem_singleton.mp z, nc] at e
        cases e)]
    exact hs b o e
  have hP' : Pur H' p c 0 := hP
  have hl : (L2.start N [V.ref a]).length = N.length := by
    unfold L2.start
    rw [List.length_append, List.length_map, List.length_replicate]
    show 1 + (N.length - 1) = _
    omega
  refine ⟨⟨Ky.refl, fun P hp => (Ky.of ky).tb P (ht P hp), fun b hb => ?_, fun _ => ⟨hP', List.mem_cons_self, List.mem_cons_of_mem _ List.mem_cons_self⟩, fun ex H2 _ _ h => absurd h (hE ex)⟩, ?_, fun i x e => ?_, fun i j xs ys n e1 e2 => ?_, fun _ _ _ => rfl⟩
  · obtain ⟨cs, k, e1, e2, _⟩ := hP'
    rcases List.mem_cons.mp hb with rfl | hb
    · exact ⟨_, e1⟩
    · rw [List.mem_singleton.mp hb]
      exact ⟨_, e2⟩
  · unfold lawE
    rw [List.length_set, List.length_set, List.length_replicate, hl]
  · rcases set_get e with ⟨rfl, rfl, hi⟩ | ⟨n, e⟩
    · exact ⟨rfl, List.getElem?_set_self (by rw [hl]; exact h1)⟩
    · rw [List.eq_of_mem_replicate (List.mem_of_getElem? e)]
      trivial
  · rcases set_get e1 with ⟨_, z, _⟩ | ⟨_, e1⟩
    · cases z
    · cases List.eq_of_mem_replicate (List.mem_of_getElem? e1)
theorem fndL {st st0 : Stmt} {rest : List Stmt} {f : Addr} {fd : FuncData} {N : List Str} {k : Nat} {x : Str} (F : Fun K "law" "law" st f fd) (S : FnScope N [x] (defScope st)) (h1 : 1 < N.length) (hb : defBody st = st0 :: rest)
    (body : ∀ (cdv : Value) (outer : List Env) (s : Shared) (H : Hp) (E : XK), Room k (callerA.deeper (envOfC "law" (defScope st) s.heap.objs.size f cdv)) →
      ∃ t0, PS (cxOf CX0 P w K mg base N "law" (defScope st) f cdv callerA outer s H E).nox st0 t0 ∧ (∀ D σ H, (∃ v, σ[0]? = some (some v) ∧ Cv.spPurse K [v] H (fun v H' => D.nx (σ.set 1 (some v)) H') (fun _ _ _ => False)) → t0 D σ H) ∧
      ∃ g, PSsd (cxOf CX0 P w K mg base N "law" (defScope st) f cdv callerA outer s H E).nox (DC.no tb) rest g ∧ g (lawE N) 0 { nx := fun _ _ => False, rt := fun r _ => r = .d (.bool true) }) :
    Cv.FnAt callerA P w K mg base (k + 1) f fd [x] (spLaw K tb) := by
  refine Cv.fn_at F S (fun vs H Q E h => ?_) (fun cdv outer s H vs Q E hr h => ?_)
  · obtain ⟨a, ns, rfl, _⟩ := h
    rfl
  · obtain ⟨a, ns, rfl, hS, hT, q⟩ := h
    obtain ⟨t0, p0, i0, g, pg, hg⟩ := body cdv outer s H E hr
    refine ⟨_, by rw [hb]; exact pss_cons p0 pg, ?_⟩
    refine i0 _ _ _ ⟨.ref a, rfl, a, ns, rfl, hS, fun H' p c hs np nc hP => ?_⟩
    refine ⟨_, _, 0, _, law_rp (D := DC.no tb) h1 hs np nc hP hT (fun _ z => z), hg, fun _ _ _ _ _ _ _ z => z.elim, fun w' T' r v H2 _ _ rv e => ?_, fun _ _ _ _ _ _ _ z => z.elim, fun _ _ _ _ _ _ _ z => z.elim⟩
    subst e
    rw [df_bl rv]
    exact q H2
end
end Dv
set_option Elab.async false
set_option linter.all false
set_option maxRecDepth 100000
set_option maxHeartbeats 1000000
/-! t[::-1], t a tuple -/
namespace Rvt
open PySem PySem.Spec PyProof.Rows L2
theorem adjust_rev (n : Nat) : Builtin.Slice.sliceAdjust none none (-1) (n : Int) = ((n : Int) - 1, -1) := by
  unfold Builtin.Slice.sliceAdjust
  simp
theorem places_rev (n : Nat) : Builtin.Slice.slicePlaces ((n : Int) - 1) (-1) (-1) = n := by
  unfold Builtin.Slice.slicePlaces
  simp
  split <;> omega
theorem fm_congr {α β : Type} {f g : α → Option β} : ∀ {l : List α}, (∀ x ∈ l, f x = g x) → l.filterMap f = l.filterMap g
  | [], _ => rfl
  | x :: r, h => by
    rw [List.filterMap_cons, List.filterMap_cons, h x List.mem_cons_self, fm_congr fun y hy => h y (List.mem_cons_of_mem _ hy)]
theorem pick_rev (xs : List Value) : ((List.range xs.length).filterMap fun (m : Nat) => xs.toArray[(((xs.length : Int) - 1) + (m : Int) * (-1)).toNat]?) = xs.reverse := by
  have e : ∀ m ∈ List.range xs.length, xs.toArray[(((xs.length : Int) - 1) + (m : Int) * (-1)).toNat]? = xs.reverse[m]? := fun m hm => by
    have hm' := List.mem_range.mp hm
    rw [show (((xs.length : Int) - 1) + (m : Int) * (-1)).toNat = xs.length - 1 - m by omega]
    rw [List.getElem?_toArray, List.getElem?_reverse hm']
  rw [fm_congr e]
  have e2 : ∀ ys : List Value, ((List.range ys.length).filterMap fun m => ys[m]?) = ys := fun ys => by
    induction ys with
    | nil => rfl
    | cons y r ih =>
      rw [List.length_cons, List.range_succ_eq_map, List.filterMap_cons]
      simp only [List.getElem?_cons_zero, List.filterMap_map]
      have e3 : ((fun m => (y :: r)[m]?) ∘ Nat.succ) = fun m => r[m]? := by
        funext m
        simp
      rw [e3, ih]
  have := e2 xs.reverse
  rw [List.length_reverse] at this
  exact this
section
variable {prog : Program} {w : World} {A : Around} {E : Value → Shared → Prop} {s : Shared}
theorem applied_rev {sl : Addr} {vl vu vs : Value} {n : Nat} {Q : Int × Int × Nat → Shared → Prop} (hs : s.heap.IsSliceOf sl vl vu vs) (pl : IsPart vl none) (pu : IsPart vu none) (ps : IsPart vs (some (-1)))
    (h : Q (((n : Int) - 1), -1, n) s) : wpAny (model prog w) A (Builtin.Slice.sliceApplied (.ref sl) (pure (n : Int))) Q E s := by
  obtain ⟨o1, ho1, hc1, hd1⟩ := id hs
  unfold Builtin.Slice.sliceApplied Builtin.Slice.sliceFields; refine wpAny_bind (wpAny_bind (wpAny_field ho1 hd1 (x := vl) rfl (wpAny_bind (wpAny_field ho1 hd1 (x := vu) rfl (wpAny_bind (wpAny_field ho1 hd1 (x := vs) rfl (wpAny_pure ?_)))))))
  refine wpAny_bind (HT.slicePart_ ps ?_)
  show wpAny _ _ (if ((-1 : Int) == 0) = true then _ else _) _ _ s
  rw [if_neg (show ¬ ((-1 : Int) == 0) = true by decide)]
  refine wpAny_bind (HT.slicePart_ pl (wpAny_bind (HT.slicePart_ pu (wpAny_bind (wpAny_pure (show wpAny _ _ (match Builtin.Slice.sliceAdjust none none (-1) (n : Int) with | (lo, hi) => pure (lo, (-1 : Int), Builtin.Slice.slicePlaces lo hi (-1))) _ _ s from ?_))))))
  rw [adjust_rev]
  show wpAny _ _ (pure (((n : Int) - 1), (-1 : Int), Builtin.Slice.slicePlaces ((n : Int) - 1) (-1) (-1))) _ _ s
  rw [places_rev]; exact wpAny_pure h
theorem getItem_rev {t sl : Addr} {its : List Value} {vl vu vs : Value} {Q : Value → Shared → Prop} (ht : IsTup s.heap t its.toArray) (hs : s.heap.IsSliceOf sl vl vu vs) (pl : IsPart vl none) (pu : IsPart vu none) (ps : IsPart vs (some (-1)))
    (h : Q (.ref s.heap.objs.size) { s with heap := s.heap.push { cls := .type "tuple", data := .seq its.reverse.toArray } }) (hsz : its.length ≤ sizeLine) : wpAny (model prog w) A (getItem (.ref t) (.ref sl)) Q E s := by
  have fits : sizeOk (.seq its.reverse.toArray) := by
    show its.reverse.toArray.size ≤ sizeLine
    rw [List.size_toArray, List.length_reverse]; exact hsz
  obtain ⟨o1, ho1, hc1, hd1⟩ := id hs
  have isSl : s.TypeIs (.ref sl) "slice" := ⟨o1, ho1, hc1⟩
  unfold getItem; try with_reducible refine wpAny_holding ?_
  (first | refine wpAny_bind (wpAny_pure ?_) | skip); refine wpAny_bind (wpAny_sequenceKey ht.typeIs (by decide) ?_)
  refine wpAny_bind (wpAny_callSpecial?_slot (name := Str.ofString "__getitem__") ht.typeIs PyProof.Rows.slot_tuple_getitem (wpAny_call_entry PyProof.Rows.slot_tuple_getitem ht.typeIs entry_tuple_getitem ?_ (args_tuple_getitem _ _)))
  show wpAny _ _ (Builtin.Tuple.tupleItemsOf (.ref t) >>= _) _ _ s; refine wpAny_bind (tupleItemsOf_ ht (wpAny_bind (wpAny_typeOf isSl ?_)))
  rw [if_pos (by decide), List.size_toArray]
  refine wpAny_bind (applied_rev hs pl pu ps ?_)
  have nay : ¬ (((((its.length : Nat) : Int) - 1) == 0 && (-1 : Int) == 1 && its.length == its.length) = true) := by
    rw [show ((-1 : Int) == 1) = false from rfl, Bool.and_false, Bool.false_and]
    exact Bool.false_ne_true
  show wpAny _ _ (if ((((its.length : Nat) : Int) - 1) == 0 && (-1 : Int) == 1 && its.length == its.length) = true then _ else _) _ _ s
  rw [if_neg nay, pick_rev]
  first | exact wpAny_bind (m := Builtin.Tuple.tupleExact _) (wpAny_newObj_type (wpAny_pure ⟨_, rfl, wpAny_pure h⟩) fits) | exact wpAny_bind (m := Builtin.Tuple.tupleExact _) (wpAny_newObj_type (wpAny_bind (wpAny_pure (wpAny_pure ⟨_, rfl, wpAny_pure h⟩))) fits) | exact wpAny_bind (wpAny_bind (m := Builtin.Tuple.tupleExact _) (wpAny_newObj_type (wpAny_pure (wpAny_pure ⟨_, rfl, wpAny_pure h⟩)) fits)) | exact wpAny_bind (wpAny_bind (m := Builtin.Tuple.tupleExact _) (wpAny_newObj_type (wpAny_pure ⟨_, rfl, wpAny_pure h⟩) fits))
end
section
variable {X : Cx}
/-- t[::-1] -/
def tRevT (K : PySem.W.Frag) (te : TE) : TE := fun σ H Q => te σ H fun x H1 => ∃ (a : Addr) (xs : List V), x = .ref a ∧ SqT K H1 a xs ∧ ∀ p, H1 p = none → Q (.ref p) (upd H1 p (.tup xs.reverse))
theorem pe_revT {e : Expr} {te : TE} {k : Nat} {p1 p2 p3 pos : Pos} (he : PE X e te) : PE X (.Subscript e (.Slice none none (some (.UnaryOp .USub (.Constant (.int 1) k p1) p2)) p3) pos) (tRevT X.K te) := by
  refine ⟨fun pins s σ H Q I h => Subscript_ (thn (he.run pins s σ H _ I h) fun v s1 ⟨x, H1, I1, r1, a, xs, ex, hx, q⟩ => ?_)⟩
  subst ex
  cases r1
  have stp : PO X (some (.UnaryOp .USub (.Constant (.int 1) k p1) p2)) (tPart (tUn (rU fun i => .int (-i)) (tC (.int 1)))) := po_some (pe_un un_neg pe_int)
  refine wpAny_Slice (thn (po_none.run pins s1 σ H1 (fun o H2 => o = none ∧ H2 = H1) I1 ⟨rfl, rfl⟩) fun vl s2 ⟨l, H2, I2, pl, eL, eH⟩ => ?_)
  subst eL eH
  refine thn (po_none.run pins s2 σ H2 (fun o H3 => o = none ∧ H3 = H2) I2 ⟨rfl, rfl⟩) fun vu s3 ⟨u, H3, I3, pu, eU, eH⟩ => ?_
  subst eU eH
  refine thn (stp.run pins s3 σ H3 (fun o H4 => o = some (-1) ∧ H4 = H3) I3 ⟨1, rfl, -1, rfl, rfl, rfl⟩) fun vs s4 ⟨o, H4, I4, ps, eO, eH⟩ => ?_
  subst eO eH
  have I5 : Inv X pins σ H4 { s4 with heap := s4.heap.push { cls := .type "slice", data := .fields #[vl, vu, vs] } } := I4.kept (t' := s4.toks) (fun b ob q => Heap.get?_push_of_some _ q)
  obtain ⟨its, r, ht, hz⟩ := I5.tuple hx
  have hlen := r.length
  show wpAny (model X.prog X.w) X.A (subscriptTail e (.Slice none none (some (.UnaryOp .USub (.Constant (.int 1) k p1) p2)) p3) (.ref a) (.ref s4.heap.objs.size)) (EP X pins σ Q) X.xe { s4 with heap := s4.heap.push { cls := .type "slice", data := .fields #[vl, vu, vs] } }
  refine tail_any (ops := [.ref a, .ref s4.heap.objs.size]) ht.typeIs (PyProof.Rows.slot_tuple_getitem.lookup) ?_ (by with_unfolding_all rfl)
  refine getItem_rev ht (Heap.IsSliceOf.new _ vl vu vs) pl pu ps ?_ (by omega)
  refine ⟨.ref _, _, I5.laid (t' := s4.toks) (o := .tup xs.reverse) (fun b ob q => Heap.get?_push_of_some _ q) (Nat.le_refl _) ?_, rfl, q _ (I5.hok.fresh (Nat.le_refl _))⟩
  exact ⟨by rw [List.length_reverse]; omega, _, r.reverse, IsTup.new _ _⟩
end
end Rvt
set_option Elab.async false
set_option linter.all false
set_option maxRecDepth 100000
set_option maxHeartbeats 4000000
namespace Dv
open PySem PySem.Spec PyProof.Rows L2
theorem _root_.L2.Room.u65 {k : Nat} {A : Around} (r : Room k A) : A.units + 65 < cLine := by
  have := r.un
  omega
structure OwnX (K : PySem.W.Frag) (mg : Str → Option Value) (nm : Str) (C : Addr) : Prop where
  g : mg nm = some (.ref C)
  x : PySem.W.excIn K C [.type "ValueError", .type "Exception", .type "BaseException", .type "object"] "ValueError.__new__" = true
  k : PySem.W.keepIn K (.ref C) = true
  b : PySem.W.subIn K (.ref C) (.type "BaseException") = some true
  t : PySem.W.typeIn K (.ref C) = some (.type "type")
/-! ### methods of tuples -/
section
variable {X : Cx} {D : DC} {o e a b : Expr} {es : List Expr} {to : TE} {t : TA} {fo fa fb f : DE} {name : Str} {apos cpos pos : Pos} {id : String} {r : V → List V → Hp → VK → Prop}
def tBMF (K : PySem.W.Frag) (r : V → List V → Hp → VK → Prop) (to : TE) (t : TA) : TE := fun σ H Q => to σ H fun x H1 => (∃ a xs, x = .ref a ∧ Tz K H1 a xs) ∧ t σ H1 fun xs H2 => r x xs H2 Q
theorem tz_no {pins : List (Addr × Obj)} {σ : L2.St} {H : Hp} {s : Shared} {p : Addr} {xs : List V} (I : Inv X pins σ H s) (h : Tz X.K H p xs) : s.TypeIs (.ref p) "tuple" ∧ ∃ ob, s.heap.get? p = some ob ∧ ob.dict = none := by
  rcases h with ⟨ob, h, d⟩ | ⟨ob, its, n, h1, h2, h3, _⟩
  · obtain ⟨g, _, its, _, o2, g2, c2, _⟩ := (show ObjOk X.prog X.w H s.heap p (.frz ob (.tup xs)) from I.hok p _ h)
    exact ⟨⟨o2, g2, c2⟩, ob, g, d⟩
  · exact ⟨⟨ob, I.kIn p ob h1, h2⟩, ob, I.kIn p ob h1, h3⟩
theorem pe_bmF (pa : PlainAttrs "tuple") (slot : Slot "tuple" name id) (hty : typeOf (.builtin id) = pure (.type "method_descriptor")) (hm : MtR X id r) (ho : PE X o to) (ha : PA X (e :: es) t)
    (hbase : attributeBase o name X.env (eval o X.env) = eval o X.env := by rfl)
    (hfew : ((backTo cpos (starEach (e :: es) X.env)).all (fun x => !x.1) && (backToKw cpos (keywordEach [] X.env)).all (fun x => x.1.isSome) && decide ((e :: es).length + ([] : List Keyword).length + (if ([] : List Keyword).isEmpty then 0 else 1) < 30)) = true := by rfl)
    (hline : (apos.endLine == cpos.line) = true := by rfl) (hs : starEach (e :: es) X.env = (false, eval e X.env) :: starEach es X.env := by rfl) (hplain : (backTo cpos (starEach es X.env)).any (·.1) = false := by rfl) : PE X (.Call (.Attribute o name apos) (e :: es) [] cpos) (tBMF X.K r to t) := by
  refine ⟨fun pins s σ H Q I h => wpAny_Call_method_late hbase hfew hline rfl (thn (ho.run pins s σ H _ I h) fun v s1 ⟨x, H1, I1, r1, ⟨a, xs, ex, tz⟩, q1⟩ => ?_)⟩
  subst ex
  cases r1
  obtain ⟨h1, h2⟩ := tz_no I1 tz
  refine ⟨"tuple", id, pa, slot, hty, h1, fun b eb => by cases eb; exact h2, ?_⟩
  have hA := ha.run cpos pins s1 σ H1 _ I1 q1
  rw [hs] at hA ⊢
  exact Calls.callWith_builtin (by show (false || (backTo cpos (starEach es X.env)).any (·.1)) = false; rw [hplain] <;> rfl) (Calls.evalArgs_plain (thn hA fun us s2 ⟨vs, H2, I2, r2, q2⟩ => hm pins s2 σ H2 (.ref a) vs (.ref a) us Q I2 rfl r2 q2))
/-- t.count(x) -/
def rCnt (K : PySem.W.Frag) : V → List V → Hp → VK → Prop := fun x xs H Q => ∃ (p : Addr) (ys : List V) (ds : List PyData) (y : V) (d : PyData), x = .ref p ∧ xs = [y] ∧ SqT K H p ys ∧ DpAll K H ys ds ∧ Dp K H y d ∧ PyData.canLayAll0 ds = true ∧ d.canLay0 = true ∧ d.depth ≤ 60 ∧ Q (.int ((ds.countP fun e => PyData.eqv e d : Nat) : Int)) H
theorem mt_count (hu : X.A.units + 65 < cLine) : MtR X "tuple.count" (rCnt X.K) := by
  intro pins s σ H x xs v us Q I rx rxs h
  obtain ⟨p, ys, ds, y, d, rfl, rfl, hs, hd, hy, h1, h2, h3, q⟩ := h
  cases rx
  obtain ⟨u, rfl, ru⟩ := rxs.one
  obtain ⟨its, rv, ⟨⟨cls, dd, data, sl⟩, ho, hc, n, hdt⟩, hlen⟩ := I.tuple hs
  simp only at hc hdt
  subst hc hdt
  obtain ⟨as, r1⟩ := Dp.readsAll I ds ys its hd rv
  obtain ⟨bs, r2⟩ := Dp.reads I d y u hy ru
  refine call_meets PySem.F.slot_tuple_count ⟨_, ho, rfl⟩ PySem.F.entry_tuple_count (PySem.F.args_tuple_count_2 _ _) (SeqAt.tuple_countAt p its.toArray n dd sl u (fun z => PyData.eqv (SeqAt.readOf s.heap z) d)) ⟨ho, SeqAt.items_eqAt (by simpa using r1) r2 h1 h2 (by have := Nat.min_le_right (PyData.depthAll ds) d.depth; omega), ?_⟩
  have ec : its.toArray.toList.countP (fun z => PyData.eqv (SeqAt.readOf s.heap z) d) = ds.countP fun e => PyData.eqv e d := by
    rw [← SeqAt.readsAll_map ds _ _ h1 r1, List.countP_map]
    rfl
  refine ⟨.int ((ds.countP fun e => PyData.eqv e d : Nat) : Int), H, I.tok _, ⟨s.toks, ?_⟩, q⟩
  show Value.int ((its.toArray.toList.countP (fun z => PyData.eqv (SeqAt.readOf s.heap z) d) : Nat) : Int) s.toks = Value.int ((ds.countP fun e => PyData.eqv e d : Nat) : Int) s.toks
  rw [ec]
def dCount (fo fa : DE) : DE := fun E T Q => fo E T fun x T1 => match x with
  | .tuple ds => fa E T1 fun y T2 => y.depth ≤ 60 ∧ Q (.int ((ds.countP fun e => PyData.eqv e y : Nat) : Int)) T2
  | _ => False
theorem pd_count (hu : X.A.units + 65 < cLine) (ho : PK X D o fo) (ha : PK X D a fa) (hs : starEach [a] X.env = (false, eval a X.env) :: starEach [] X.env := by rfl)
    (hbase : attributeBase o "count" X.env (eval o X.env) = eval o X.env := by rfl)
    (hfew : ((backTo cpos (starEach [a] X.env)).all (fun x => !x.1) && (backToKw cpos (keywordEach [] X.env)).all (fun x => x.1.isSome) && decide (([a] : List Expr).length + ([] : List Keyword).length + (if ([] : List Keyword).isEmpty then 0 else 1) < 30)) = true := by rfl)
    (hline : (apos.endLine == cpos.line) = true := by rfl) : PD X D (.Call (.Attribute o "count" apos) [a] [] cpos) (dCount fo fa) :=
  PE.imp (pe_bmF PySem.F.plainAttrs_tuple PySem.F.slot_tuple_count PySem.F.type_tuple_count (mt_count hu) ho (pa_cons ha pa_nil hs) hbase hfew hline hs rfl) fun σ H Q ⟨w, E, T, Qh, R, hf, q⟩ => ⟨w, E, T, _, R, hf, fun x T1 v H1 s1 d1 h1 => by
    cases x with
    | tuple ds =>
      obtain ⟨p, vs, rfl, tz, da⟩ := dk_tup d1
      refine ⟨⟨p, vs, rfl, tz_up tz⟩, w, E, T1, _, R.step s1, h1, fun y T2 u H2 s2 d2 h2 => ?_⟩
      have da2 := da.ky s2.ky
      exact ⟨p, vs, ds, u, y, rfl, rfl, (tz_up (s2.ky.tz tz)).sq, Df.dpAll _ _ da2.up, d2.dp, Df.canAll _ _ da2, Df.can _ _ d2.df, h2.1, q _ T2 _ H2 (s1.trans s2) (.int _) h2.2⟩
    | _ => exact h1.elim⟩
/-! ### more of lists -/
/-- x.insert(i, e), x an own list -/
def dIns (i : Nat) (fa fb : DE) : DS := fun E T D => match E[i]? with
  | some (.own xs) => fa E T fun x T1 => fb E T1 fun y T2 => match x with
    | .int n => (0 ≤ n ∧ n < 2 ^ 63 ∧ xs.length < 1000000) ∧ D.nx (E.set i (.own (xs.take n.toNat ++ [y] ++ xs.drop n.toNat))) T2
    | _ => False
  | _ => False
theorem psd_ins {i : Nat} {x : Str} {p1 ap cp : Pos} {rI : V → List V → Hp → VK → Prop} (hI : rI = fun x vs H Q => ∃ (l : Addr) (xs : List V) (i : Int) (y : V), x = .ref l ∧ vs = [.int i, y] ∧ H l = some (.lst xs) ∧ xs.length < sizeLine ∧ 0 ≤ i ∧ i < 2 ^ 63 ∧ Q .non (upd H l (.lst (xs.take i.toNat ++ [y] ++ xs.drop i.toNat))))
    (hb : PE X (.Call (.Attribute (.Name x p1) "insert" ap) [a, b] [] cp) (tBM X.K "list" rI (tVar i) (tCons (tD X.K D fa) (tCons (tD X.K D fb) tNil))))
    (hs : swapsWith (.Call (.Attribute (.Name x p1) "insert" ap) [a, b] [] cp) none pos.line X.env = pure false := by rfl) : PSd X D (.Expr (.Call (.Attribute (.Name x p1) "insert" ap) [a, b] [] cp) pos) (dIns i fa fb) := PS.imp (ps_expr hb hs) fun Dn σ H ⟨w, E, T, Dh, R, hg, l⟩ => by
  subst hI
  unfold dIns at hg
  split at hg
  · rename_i xs e
    obtain ⟨e1, e2, e3, us, e4, e5⟩ := R.sl i _ e
    refine ⟨_, e1, .inl ⟨rfl, _, SqL.of e4⟩, w, E, T, _, R, hg, fun x T1 v H1 s1 d1 h1 => ⟨w, E, T1, _, R.step s1, h1, fun y T2 u H2 s2 d2 h2 => ?_⟩⟩
    have st := s1.trans s2
    have R2 := R.step st
    obtain ⟨_, _, _, us2, g4, g5⟩ := R2.sl i _ e
    cases x with
    | int n =>
      obtain ⟨R3, x3⟩ := R2.upd e (((g5.take n.toNat).append (.cons d2 .nil)).append (g5.drop n.toNat))
      exact ⟨_, us2, n, u, rfl, by rw [df_int d1], g4, lim_lt (by rw [g5.len]; exact h2.1.2.2), h2.1.1, h2.1.2.1, l.nx w _ T2 _ _ (st.ext.trans x3) R3 h2.2⟩
    | _ => exact h2.elim
  · exact hg.elim
/-- x[a] = b, x an own list -/
def dSetIx (i : Nat) (fv fi : DE) : DS := fun E T D => fv E T fun v T1 => match E[i]? with
  | some (.own xs) => fi E T1 fun k T2 => match k with
    | .int n => (match ixN xs.length n with
      | some j => D.nx (E.set i (.own (xs.set j v))) T2
      | none => False)
    | _ => False
  | _ => False
theorem psd_setIx {i : Nat} {x : Str} {p1 : Pos} (hb : PD X D b fb) (hg : PG X (.Subscript (.Name x p1) a pos) (gSub (tVar i) (tD X.K D fa) rSetL)) {spos : Pos}
    (hs : swapsWithSole [.Subscript (.Name x p1) a pos] b spos.line X.env = pure false := by rfl) (hw : swappedStores [.Subscript (.Name x p1) a pos] b X.env = pure none := by rfl) (h1 : (assignEach [.Subscript (.Name x p1) a pos] X.env).map (·.2) = [assign (.Subscript (.Name x p1) a pos) X.env] := by rfl) :
    PSd X D (.Assign [.Subscript (.Name x p1) a pos] b spos) (dSetIx i fb fa) := PS.imp (ps_asg hb hg hs hw h1) fun Dn σ H ⟨w, E, T, Dh, R, hg, l⟩ => ⟨w, E, T, _, R, hg, fun v T1 u H1 s1 d1 h1 => by
  split at h1
  · rename_i xs e
    obtain ⟨e1, e2, e3, us, e4, e5⟩ := R.sl i _ e
    refine ⟨_, e1, w, E, T1, _, R.step s1, h1, fun k T2 uk H2 s2 d2 h2 => ?_⟩
    have st := s1.trans s2
    have R2 := R.step st
    obtain ⟨_, _, _, us2, g4, g5⟩ := R2.sl i _ e
    cases k with
    | int n =>
      simp only at h2
      split at h2
      · rename_i j ej
        obtain ⟨R3, x3⟩ := R2.upd e (g5.set j (d1.ky s2.ky))
        exact ⟨_, us2, n, j, rfl, df_int d2, g4, by rw [g5.len]; exact ej, l.nx w _ T2 _ _ (st.ext.trans x3) R3 h2⟩
      · exact h2.elim
    | _ => exact h2.elim
  · exact h1.elim⟩
/-! ### min, max of two -/
def minD : DO
  | .int i, .int j => some (.int (if j < i then j else i))
  | _, _ => none
def maxD : DO
  | .int i, .int j => some (.int (if j > i then j else i))
  | _, _ => none
theorem pd_min2 {p : Pos} (hc : X.calm = true) (hg : Gl X "min") (hm : X.mg "min" = none) (ha : PK X D a fa) (hb : PK X D b fb) (he : starEach [a, b] X.env = (false, eval a X.env) :: starEach [b] X.env := by rfl) (he2 : starEach [b] X.env = (false, eval b X.env) :: starEach [] X.env := by rfl) (hpl : (backTo pos (starEach [b] X.env)).any (·.1) = false := by rfl) :
    PD X D (.Call (.Name "min" p) [a, b] [] pos) (dOp minD fa fb) := PE.imp (pe_callB (call_min2 hc) hg hm (by decide +kernel) (pa_cons ha (pa_cons hb pa_nil he2) he) (by decide) (by decide) he hpl) fun σ H Q h => by
  refine op_run (r := fun x y H Q => ∃ i j, [x, y] = [V.int i, V.int j] ∧ Q (.int (if j < i then j else i)) H) (fun w H v u x y z Q hO dx dy e q => ?_) h
  unfold minD at e
  split at e
  · cases e
    exact ⟨_, _, by rw [dk_int dx, dk_int dy], q _ H (Same.refl _) (.int _)⟩
  · cases e
theorem pd_max2 {p : Pos} (hc : X.calm = true) (hg : Gl X "max") (hm : X.mg "max" = none) (ha : PK X D a fa) (hb : PK X D b fb) (he : starEach [a, b] X.env = (false, eval a X.env) :: starEach [b] X.env := by rfl) (he2 : starEach [b] X.env = (false, eval b X.env) :: starEach [] X.env := by rfl) (hpl : (backTo pos (starEach [b] X.env)).any (·.1) = false := by rfl) :
    PD X D (.Call (.Name "max" p) [a, b] [] pos) (dOp maxD fa fb) := PE.imp (pe_callB (call_max2 hc) hg hm (by decide +kernel) (pa_cons ha (pa_cons hb pa_nil he2) he) (by decide) (by decide) he hpl) fun σ H Q h => by
  refine op_run (r := fun x y H Q => ∃ i j, [x, y] = [V.int i, V.int j] ∧ Q (.int (if j > i then j else i)) H) (fun w H v u x y z Q hO dx dy e q => ?_) h
  unfold maxD at e
  split at e
  · cases e
    exact ⟨_, _, by rw [dk_int dx, dk_int dy], q _ H (Same.refl _) (.int _)⟩
  · cases e
/-! ### t[::-1] -/
def tRevF (K : PySem.W.Frag) (te : TE) : TE := fun σ H Q => te σ H fun x H1 => ∃ (a : Addr) (xs : List V), x = .ref a ∧ SqT K H1 a xs ∧ ∀ p o, H1 p = none → o.dict = none → Q (.ref p) (upd H1 p (.frz o (.tup xs.reverse)))
theorem pe_revF {te : TE} {k : Nat} {p1 p2 p3 : Pos} (he : PE X e te) : PE X (.Subscript e (.Slice none none (some (.UnaryOp .USub (.Constant (.int 1) k p1) p2)) p3) pos) (tRevF X.K te) := by
  refine ⟨fun pins s σ H Q I h => Subscript_ (thn (he.run pins s σ H _ I h) fun v s1 ⟨x, H1, I1, r1, a, xs, ex, hx, q⟩ => ?_)⟩
  subst ex
  cases r1
  have stp : PO X (some (.UnaryOp .USub (.Constant (.int 1) k p1) p2)) (tPart (tUn (rU fun i => .int (-i)) (tC (.int 1)))) := po_some (pe_un un_neg pe_int)
  refine wpAny_Slice (thn (po_none.run pins s1 σ H1 (fun o H2 => o = none ∧ H2 = H1) I1 ⟨rfl, rfl⟩) fun vl s2 ⟨l, H2, I2, pl, eL, eH⟩ => ?_)
  subst eL eH
  refine thn (po_none.run pins s2 σ H2 (fun o H3 => o = none ∧ H3 = H2) I2 ⟨rfl, rfl⟩) fun vu s3 ⟨u, H3, I3, pu, eU, eH⟩ => ?_
  subst eU eH
  refine thn (stp.run pins s3 σ H3 (fun o H4 => o = some (-1) ∧ H4 = H3) I3 ⟨1, rfl, -1, rfl, rfl, rfl⟩) fun vs s4 ⟨o, H4, I4, ps, eO, eH⟩ => ?_
  subst eO eH
  have I5 : Inv X pins σ H4 { s4 with heap := s4.heap.push { cls := .type "slice", data := .fields #[vl, vu, vs] } } := I4.kept (t' := s4.toks) (fun b ob q => Heap.get?_push_of_some _ q)
  obtain ⟨its, r, ht, hz⟩ := I5.tuple hx
  have hlen := r.length
  show wpAny (model X.prog X.w) X.A (subscriptTail e (.Slice none none (some (.UnaryOp .USub (.Constant (.int 1) k p1) p2)) p3) (.ref a) (.ref s4.heap.objs.size)) (EP X pins σ Q) X.xe { s4 with heap := s4.heap.push { cls := .type "slice", data := .fields #[vl, vu, vs] } }
  refine tail_any (ops := [.ref a, .ref s4.heap.objs.size]) ht.typeIs (PyProof.Rows.slot_tuple_getitem.lookup) ?_ (by with_unfolding_all rfl)
  refine Rvt.getItem_rev ht (Heap.IsSliceOf.new _ vl vu vs) pl pu ps ?_ (by omega)
  exact ⟨.ref _, _, new_tup I5 r.reverse (by rw [List.length_reverse]; omega), rfl, q _ (tupO _) (I5.hok.fresh (Nat.le_refl _)) rfl⟩
def dRev (f : DE) : DE := fun E T Q => f E T fun x T1 => match x with
  | .tuple ds => Q (.tuple ds.reverse) T1
  | _ => False
theorem pd_rev {k : Nat} {p1 p2 p3 : Pos} (h : PK X D e f) : PD X D (.Subscript e (.Slice none none (some (.UnaryOp .USub (.Constant (.int 1) k p1) p2)) p3) pos) (dRev f) := PE.imp (pe_revF h) fun σ H Q ⟨w, E, T, Qh, R, hf, q⟩ => ⟨w, E, T, _, R, hf, fun x T1 v H1 s1 d1 h1 => by
  cases x with
  | tuple ds =>
    obtain ⟨p, vs, rfl, tz, da⟩ := dk_tup d1
    exact ⟨p, vs, rfl, (tz_up tz).sq, fun l o n dd => q _ T1 _ _ (s1.trans ((R.step s1).wd.stp (same_upd n))) (df_newT (R.step s1).wd.lst (same_upd n) (tz_new dd) da.rev) h1⟩
  | _ => exact h1.elim⟩
end
/-! ### repr, where nothing is being shown -/
end Dv
set_option Elab.async false
set_option linter.all false
set_option maxRecDepth 100000
set_option maxHeartbeats 4000000
namespace Dv
open PySem PySem.Spec PyProof.Rows L2
abbrev topS (i : Nat) : Stmt := Cv.topS i
def G__law_draw : DSp := fun as T Q _ => ∃ n : Int, as = [.pur, .d (.int n)] ∧ T ≤ 1000000000 ∧ 1 ≤ n ∧ n ≤ 1000000000 ∧ ∀ r : Int, 0 ≤ r → r < n → Q (.d (.int r)) (T + 1)
theorem kp_ky {p c : Addr} {H H' : Hp} {T : Nat} (h : Cv.Kp p c H H') : Ky (hidL [p, c] H) (hidL [p, c] H') := Ky.of fun a o e => by
  obtain ⟨h1, h2⟩ := hidL_off e
  rw [hidL_at h1]
  exact h a o (fun z => h1 (by rw [z]; exact List.mem_cons_self)) (fun z => h1 (by rw [z]; exact List.mem_cons_of_mem _ List.mem_cons_self)) h2
section
variable {P : Program} {w : World} {K : PySem.W.Frag} {mg : Str → Option Value} {base : Heap}
theorem ok_Ldraw {f : Addr} {fd : FuncData} {k : Nat} {tb : List Addr} (F : Fun K "_law_draw" "_law_draw" Cv.sDraw f fd) (ml : mg "len" = none) : FnOk P w K mg base (L2.CX P w) (k + 1) f fd ["_law_purse", "_law_out_of"] (spF K tb G__law_draw) := by
  refine FnOk.lift (FnOk.imp (Cv.ok_draw F ml) fun vs H Q E h => ?_)
  obtain ⟨hp, p, c, as, T, Qh, Eh, ha, ht, hP, ⟨n, rfl, h1, h2, h3, h4⟩, q1, q2, q3⟩ := h
  cases ha with
  | cons a1 ha =>
    cases ha with
    | cons a2 ha =>
      cases ha
      obtain ⟨rfl, rfl⟩ := a1
      have a2' := df_int a2
      subst a2'
      refine ⟨p, c, T, n, rfl, hP rfl, h1, h2, h3, fun H' r r0 r1 hP' kp => ?_⟩
      exact q1 (.int r) (T + 1) (.int r) H' (kp_ky (T := T) kp) (fun _ => hP') (.int r) (h4 r r0 r1)
end
end Dv
set_option Elab.async false
set_option linter.all false
set_option maxRecDepth 100000
set_option maxHeartbeats 1000000
namespace Dv
open PySem PySem.Spec PyProof.Rows L2
theorem dif {b : Bool} {A B : Prop} (h1 : b = true → A) (h2 : b = false → B) : if b = true then A else B := by
  cases b
  · exact h2 rfl
  · exact h1 rfl
theorem diT {b : Bool} {A B : Prop} (e : b = true) (h : A) : if b = true then A else B := by
  rw [if_pos e]
  exact h
theorem diF {b : Bool} {A B : Prop} (e : b = false) (h : B) : if b = true then A else B := by
  rw [e]
  exact h
theorem nT {b : Bool} (h : (!b) = true) : b = false := by simpa using h
theorem nF {b : Bool} (h : (!b) = false) : b = true := by simpa using h
theorem and_q {b c : Bool} {T : Nat} {Q : DRt → Nat → Prop} (h : Q (.d (.bool (b && c))) T) : if b = true then Q (.d (.bool c)) T else Q (.d (.bool false)) T := by
  cases b
  · exact h
  · exact h
theorem all_range {α : Type} (xs : List α) (p : α → Bool) (d : α) : ((List.range xs.length).all fun m => p (xs.getD m d)) = xs.all p := by
  rw [Bool.eq_iff_iff, List.all_eq_true, List.all_eq_true]
  constructor
  · intro h x hx
    obtain ⟨i, hi, e⟩ := List.mem_iff_getElem.mp hx
    have := h i (List.mem_range.mpr hi)
    rw [List.getD_eq_getElem?_getD, List.getElem?_eq_getElem hi, e] at this
    exact this
  · intro h i hi
    have hi' := List.mem_range.mp hi
    show p (xs.getD i d) = true
    rw [List.getD_eq_getElem?_getD, List.getElem?_eq_getElem hi']
    exact h _ (List.getElem_mem hi')
theorem s_tb (b : Bool) : truthD (.bool b) = b := rfl
theorem s_tn : truthD .none = false := rfl
theorem s_ti (i : Int) : truthD (.int i) = (i != 0) := rfl
theorem s_tl (ds : List PyData) : truthD (.list ds) = !ds.isEmpty := rfl
theorem s_tt (ds : List PyData) : truthD (.tuple ds) = !ds.isEmpty := rfl
theorem s_dd (x : PyData) : (DRt.d x).dat = x := rfl
theorem s_do (xs : List PyData) : (DRt.own xs).dat = .list xs := rfl
theorem s_ll (ds : List PyData) : lenD (.list ds) = some (.int ds.length) := rfl
theorem s_lt (ds : List PyData) : lenD (.tuple ds) = some (.int ds.length) := rfl
theorem s_ls (z : Str) : lenD (.str z) = some (.int z.length) := rfl
theorem s_ul (ds : List PyData) : tupleD (.list ds) = some (.tuple ds) := rfl
theorem s_ut (ds : List PyData) : tupleD (.tuple ds) = some (.tuple ds) := rfl
theorem s_isStr_none : isStr .none = false := rfl
theorem s_isStr_bool (b : Bool) : isStr (.bool b) = false := rfl
theorem s_isStr_int (i : Int) : isStr (.int i) = false := rfl
theorem s_isStr_str (z : Str) : isStr (.str z) = true := rfl
theorem s_isStr_list (ds : List PyData) : isStr (.list ds) = false := rfl
theorem s_isStr_tuple (ds : List PyData) : isStr (.tuple ds) = false := rfl
theorem s_isTup_none : isTup .none = false := rfl
theorem s_isTup_bool (b : Bool) : isTup (.bool b) = false := rfl
theorem s_isTup_int (i : Int) : isTup (.int i) = false := rfl
theorem s_isTup_str (z : Str) : isTup (.str z) = false := rfl
theorem s_isTup_list (ds : List PyData) : isTup (.list ds) = false := rfl
theorem s_isTup_tuple (ds : List PyData) : isTup (.tuple ds) = true := rfl
theorem s_isLst_none : isLst .none = false := rfl
theorem s_isLst_bool (b : Bool) : isLst (.bool b) = false := rfl
theorem s_isLst_int (i : Int) : isLst (.int i) = false := rfl
theorem s_isLst_str (z : Str) : isLst (.str z) = false := rfl
theorem s_isLst_list (ds : List PyData) : isLst (.list ds) = true := rfl
theorem s_isLst_tuple (ds : List PyData) : isLst (.tuple ds) = false := rfl
theorem s_isInt_none : isInt .none = false := rfl
theorem s_isInt_bool (b : Bool) : isInt (.bool b) = true := rfl
theorem s_isInt_int (i : Int) : isInt (.int i) = true := rfl
theorem s_isInt_str (z : Str) : isInt (.str z) = false := rfl
theorem s_isInt_list (ds : List PyData) : isInt (.list ds) = false := rfl
theorem s_isInt_tuple (ds : List PyData) : isInt (.tuple ds) = false := rfl
theorem s_isBool_none : isBool .none = false := rfl
theorem s_isBool_bool (b : Bool) : isBool (.bool b) = true := rfl
theorem s_isBool_int (i : Int) : isBool (.int i) = false := rfl
theorem s_isBool_str (z : Str) : isBool (.str z) = false := rfl
theorem s_isBool_list (ds : List PyData) : isBool (.list ds) = false := rfl
theorem s_isBool_tuple (ds : List PyData) : isBool (.tuple ds) = false := rfl
theorem s_isN_none : isN .none = true := rfl
theorem s_isN_bool (b : Bool) : isN (.bool b) = false := rfl
theorem s_isN_int (i : Int) : isN (.int i) = false := rfl
theorem s_isN_str (z : Str) : isN (.str z) = false := rfl
theorem s_isN_list (ds : List PyData) : isN (.list ds) = false := rfl
theorem s_isN_tuple (ds : List PyData) : isN (.tuple ds) = false := rfl
theorem s_is (x : PyData) : isD x .none = some (.bool (isN x)) := rfl
theorem s_isnt (x : PyData) : isntD x .none = some (.bool (!isN x)) := rfl
theorem s_xl (ds : List PyData) (i : Int) : ixD (.list ds) (.int i) = atI ds i := rfl
theorem s_xt (ds : List PyData) (i : Int) : ixD (.tuple ds) (.int i) = atI ds i := rfl
theorem s_xs (z : Str) (i : Int) : ixD (.str z) (.int i) = (atI z.cps.toList i).map fun c => .str ⟨#[c]⟩ := rfl
theorem s_cl (ds : List PyData) (l h : Option Int) : cutD (.list ds) l h = some (.list (cutG ds l h)) := rfl
theorem s_ct (ds : List PyData) (l h : Option Int) : cutD (.tuple ds) l h = some (.tuple (cutG ds l h)) := rfl
theorem s_cs (z : Str) (l h : Option Int) : cutD (.str z) l h = some (.str (cutS z l h)) := rfl
theorem s_add (i j : Int) : addD (.int i) (.int j) = some (.int (i + j)) := rfl
theorem s_sub (i j : Int) : subD (.int i) (.int j) = some (.int (i - j)) := rfl
theorem s_lti (i j : Int) : ltD (.int i) (.int j) = some (.bool (decide (i < j))) := rfl
theorem s_lei (i j : Int) : leD (.int i) (.int j) = some (.bool (decide (i ≤ j))) := rfl
theorem s_gti (i j : Int) : gtD (.int i) (.int j) = some (.bool (decide (j < i))) := rfl
theorem s_gei (i j : Int) : geD (.int i) (.int j) = some (.bool (decide (j ≤ i))) := rfl
theorem s_min (i j : Int) : minD (.int i) (.int j) = some (.int (if j < i then j else i)) := rfl
theorem s_max (i j : Int) : maxD (.int i) (.int j) = some (.int (if j > i then j else i)) := rfl
theorem s_neg (i : Int) : negD (.int i) = some (.int (-i)) := rfl
theorem s_abs (i : Int) : absD (.int i) = some (.int (if i < 0 then -i else i)) := rfl
theorem s_os (z : PyData) (T : Nat) (Q : PyData → Nat → Prop) : optQ (some z) T Q = Q z T := rfl
theorem eqD_int (i j : Int) : eqD (.int i) (.int j) = some (.bool (decide (i = j))) := by
  simp [eqD, PyData.depth, PyData.eqv, BEq.beq]
theorem neD_int (i j : Int) : neD (.int i) (.int j) = some (.bool (!decide (i = j))) := by
  simp [neD, PyData.depth, PyData.eqv, BEq.beq]
/-! ### how loops by data are shown -/
theorem dFor_ind {γ : DG} {body : DS} {xs : List PyData} {E : Env'} {T : Nat} {D : DEnds} (I : Nat → Env' → Nat → Prop) (h0 : I 0 E T)
    (hs : ∀ (i : Nat) (x : PyData) (E : Env') (T : Nat) (K : Env' → Nat → Prop), xs[i]? = some x → I i E T → (∀ E2 T2, I (i + 1) E2 T2 → K E2 T2) → γ x E fun E' => body E' T { D with nx := K, ct := K, bk := D.nx })
    (hd : ∀ E T, I xs.length E T → D.nx E T) : dFor γ body xs E T D := by
  have main : ∀ (n i : Nat) (E : Env') (T : Nat), n + i = xs.length → I i E T → dFor γ body (xs.drop i) E T D := by
    intro n
    induction n with
    | zero =>
      intro i E T e h
      have e' : i = xs.length := by omega
      rw [e', List.drop_of_length_le (Nat.le_refl _)]
      rw [e'] at h
      exact hd E T h
    | succ n ih =>
      intro i E T e h
      have hi : i < xs.length := by omega
      have ex : xs[i]? = some xs[i] := List.getElem?_eq_getElem hi
      rw [drop_at ex]
      exact hs i xs[i] E T _ ex h fun E2 T2 h2 => ih (i + 1) E2 T2 (by omega) h2
  exact main xs.length 0 E T (by omega) h0
theorem dLcGo_ind {γ : DG} {tt : DT} {te : DE} {xs : List PyData} {E : Env'} {T : Nat} {Q : List PyData → Nat → Prop} (I : Nat → List PyData → Nat → Prop) (h0 : I 0 [] T)
    (hs : ∀ (i : Nat) (x : PyData) (acc : List PyData) (T : Nat) (K : List PyData → Nat → Prop), xs[i]? = some x → I i acc T → (∀ acc2 T2, I (i + 1) acc2 T2 → K acc2 T2) → γ x E fun E' => tt E' T fun b T1 => if b = true then te E' T1 fun y T2 => acc.length < 1000000 ∧ K (acc ++ [y]) T2 else K acc T1)
    (hd : ∀ acc T, I xs.length acc T → Q acc T) : dLcGo γ tt te xs E T [] Q := by
  have main : ∀ (n i : Nat) (acc : List PyData) (T : Nat), n + i = xs.length → I i acc T → dLcGo γ tt te (xs.drop i) E T acc Q := by
    intro n
    induction n with
    | zero =>
      intro i acc T e h
      have e' : i = xs.length := by omega
      rw [e', List.drop_of_length_le (Nat.le_refl _)]
      rw [e'] at h
      exact hd acc T h
    | succ n ih =>
      intro i acc T e h
      have hi : i < xs.length := by omega
      have ex : xs[i]? = some xs[i] := List.getElem?_eq_getElem hi
      rw [drop_at ex]
      exact hs i xs[i] acc T (fun a2 T2 => dLcGo γ tt te (xs.drop (i + 1)) E T2 a2 Q) ex h fun a2 T2 h2 => ih (i + 1) a2 T2 (by omega) h2
  exact main xs.length 0 [] T (by omega) h0
/-- a comprehension that draws nothing: what is kept, each by its value -/
theorem dLc_pure {γ : DG} {tt : DT} {te : DE} {xs : List PyData} {E : Env'} {T : Nat} {Q : List PyData → Nat → Prop} (p : PyData → Bool) (v : PyData → PyData) (hl : xs.length ≤ 1000000)
    (hs : ∀ (x : PyData) (Ky : PyData → Nat → Prop) (Kn : Nat → Prop), x ∈ xs → (p x = true → Ky (v x) T) → (p x = false → Kn T) → γ x E fun E' => tt E' T fun b T1 => if b = true then te E' T1 Ky else Kn T1)
    (hd : Q ((xs.filter p).map v) T) : dLcGo γ tt te xs E T [] Q := by
  refine dLcGo_ind (fun i acc T' => acc = ((xs.take i).filter p).map v ∧ T' = T) ⟨rfl, rfl⟩ (fun i x acc T' K hx h hK => ?_) (fun acc T' h => ?_)
  · obtain ⟨rfl, rfl⟩ := h
    have hl2 : (((xs.take i).filter p).map v).length < 1000000 := by
      have h1 := (List.getElem?_eq_some_iff.mp hx).1
      have h2 := List.length_filter_le p (xs.take i)
      rw [List.length_take] at h2
      rw [List.length_map]
      omega
    have step : ∀ b, p x = b → ((xs.take (i + 1)).filter p).map v = ((xs.take i).filter p).map v ++ if b = true then [v x] else [] := fun b hb => by
      rw [List.take_add_one, hx, List.filter_append, List.map_append]
      cases b <;> simp [hb]
    exact hs x (fun y T2 => _ ∧ K (_ ++ [y]) T2) (fun T2 => K _ T2) (List.mem_of_getElem? hx) (fun h1 => ⟨hl2, hK _ _ ⟨by rw [step true h1]; rfl, rfl⟩⟩) (fun h1 => hK _ _ ⟨by rw [step false h1]; simp, rfl⟩)
  · obtain ⟨rfl, rfl⟩ := h
    rw [List.take_of_length_le (Nat.le_refl _)]
    exact hd
/-- all(..): p of each -/
theorem dAll_of {vs : List Nat} {f : DIt} {γ : DG} {te : DE} {E : Env'} {T : Nat} {Q : PyData → Nat → Prop} (xs : List PyData) (p : PyData → Bool) (hf : ∀ R : List PyData → Nat → Prop, R xs T → f E T R)
    (h : ∀ x ∈ xs, γ x (wipeE E vs) fun E' => te E' T fun y T2 => y = .bool (p x) ∧ T2 = T) (q : Q (.bool (xs.all p)) T) : dAll vs f γ te E T Q := by
  refine hf _ ⟨fun j => p (xs.getD j .none), fun j x hx => ?_, ?_⟩
  · have e : xs.getD j .none = x := by
      rw [List.getD_eq_getElem?_getD, hx]
      rfl
    simp only [e]
    exact h x (List.mem_of_getElem? hx)
  · rw [all_range xs p .none]
    exact q
end Dv
set_option Elab.async false
set_option linter.all false
set_option maxRecDepth 100000
set_option maxHeartbeats 1000000
namespace Dv
open PySem PySem.Spec PyProof.Rows L2
def firstK (n : Nat) (p : Nat → Bool) : Option Nat := (List.range n).find? p
theorem firstK_none {n : Nat} {p : Nat → Bool} (h : ∀ k, k < n → p k = false) : firstK n p = none := by
  unfold firstK
  rw [List.find?_eq_none]
  intro k hk
  rw [h k (List.mem_range.mp hk)]
  exact Bool.false_ne_true
theorem firstK_some {n k : Nat} {p : Nat → Bool} (hk : k < n) (hp : p k = true) (h : ∀ j, j < k → p j = false) : firstK n p = some k := by
  unfold firstK
  rw [List.find?_range_eq_some]
  exact ⟨hp, List.mem_range.mpr hk, fun j hj => by rw [h j hj]; rfl⟩
theorem before_succ {p : Nat → Bool} {i : Nat} (h : ∀ j, j < i → p j = false) (hi : p i = false) : ∀ j, j < i + 1 → p j = false := fun j hj => by
  by_cases z : j = i
  · rw [z]
    exact hi
  · exact h j (by omega)
theorem getD_at {α : Type} {xs : List α} {i : Nat} {x d : α} (h : xs[i]? = some x) : xs.getD i d = x := by
  rw [List.getD_eq_getElem?_getD, h]
  rfl
theorem enum_at {ds : List PyData} {i : Nat} {x : PyData} (h : (enumD ds)[i]? = some x) : ∃ d, ds[i]? = some d ∧ x = .tuple [.int (i : Nat), d] ∧ i < ds.length := by
  have hi : i < ds.length := by
    have := (List.getElem?_eq_some_iff.mp h).1
    rw [enum_len] at this
    exact this
  refine ⟨ds[i], List.getElem?_eq_getElem hi, ?_, hi⟩
  rw [enum_get (List.getElem?_eq_getElem hi)] at h
  exact (Option.some.inj h).symm
theorem cut_take {α : Type} (xs : List α) (k : Nat) : cutG xs none (some (k : Int)) = xs.take k := by
  unfold cutG
  have h1 : HT.sIx xs.length 0 none = 0 := rfl
  have h2 : HT.sIx xs.length xs.length (some (k : Int)) = min k xs.length := by
    show (if (k : Int) < 0 then ((k : Int) + (xs.length : Int)).toNat else min (k : Int).toNat xs.length) = _
    rw [if_neg (by omega)]
    rfl
  rw [h1, h2, List.drop_zero, Nat.sub_zero]
  by_cases e : k ≤ xs.length
  · rw [Nat.min_eq_left e]
  · rw [Nat.min_eq_right (by omega), List.take_of_length_le (Nat.le_refl _), List.take_of_length_le (by omega)]
theorem depth_strs {ds : List PyData} (h : ∀ d ∈ ds, isStr d = true) : PyData.depthAll ds ≤ 1 := by
  induction ds with
  | nil => simp [PyData.depthAll]
  | cons d r ih =>
    have h1 := ih fun x hx => h x (List.mem_cons_of_mem _ hx)
    have h2 := h d List.mem_cons_self
    cases d with
    | str z =>
      simp only [PyData.depthAll, PyData.depth]
      omega
    | _ => cases h2

/-! ### how much a thing weighs -/
mutual
def wt : PyData → Nat
  | .none => 4
  | .bool _ => 5
  | .int i => if i.natAbs < 10 ^ 31 then 40 else 510
  | .str z => 10 * z.length + 2
  | .list ds => 200 + wts ds
  | .tuple ds => 200 + wts ds
  | .dict _ => 0
def wts : List PyData → Nat
  | [] => 0
  | d :: r => wt d + 2 + wts r
end
theorem wt_mem {d : PyData} : ∀ {ds : List PyData}, d ∈ ds → wt d + 2 ≤ wts ds
  | x :: r, h => by
    rw [wts]
    rcases List.mem_cons.mp h with e | h
    · rw [e]
      omega
    · have := wt_mem h
      omega
theorem wts_len : ∀ ds : List PyData, 2 * ds.length ≤ wts ds
  | [] => Nat.zero_le _
  | d :: r => by
    have := wts_len r
    rw [wts, List.length_cons]
    omega
theorem wts_of {n : Nat} : ∀ {ds : List PyData}, (∀ d ∈ ds, wt d ≤ n) → wts ds ≤ ds.length * (n + 2)
  | [], _ => by simp [wts]
  | x :: r, h => by
    have h1 := h x List.mem_cons_self
    have h2 := wts_of fun d hd => h d (List.mem_cons_of_mem _ hd)
    rw [wts, List.length_cons, Nat.add_mul]
    omega
theorem wts_app : ∀ ds es : List PyData, wts (ds ++ es) = wts ds + wts es
  | [], es => by simp [wts]
  | d :: r, es => by
    rw [List.cons_append, wts, wts, wts_app r es]
    omega
mutual
/-- no dicts, small numbers, plain signs -/
def pl : PyData → Bool
  | .none => true
  | .bool _ => true
  | .int i => decide (i.natAbs < 10 ^ 500)
  | .str z => z.cps.toList.all fun ch => decide (ch < 1000)
  | .list ds => pls ds
  | .tuple ds => pls ds
  | .dict _ => false
def pls : List PyData → Bool
  | [] => true
  | d :: r => pl d && pls r
end
theorem int_len {i : Int} (h : i.natAbs < 10 ^ 31) : (Str.ofString (toString i)).length ≤ 40 := by
  have h2 := int_text_length_le10 (a := i) (k := 31) (by decide) h
  rw [PySem.ofString_length]
  omega
theorem int_len2 {i : Int} (h : i.natAbs < 10 ^ 500) : (Str.ofString (toString i)).length ≤ 510 ∧ i.natAbs.log2 < 1920 := by
  refine ⟨?_, ?_⟩
  · have h2 := int_text_length_le10 (a := i) (k := 500) (by decide) h
    rw [PySem.ofString_length]
    omega
  · by_cases e : i.natAbs = 0
    · rw [e]
      decide
    · exact (Nat.log2_lt e).mpr (Nat.lt_of_lt_of_le h (by decide +kernel))
mutual
theorem shows : ∀ d : PyData, pl d = true → d.showable = true ∧ d.hasDict = false ∧ d.shown.length ≤ wt d ∧ 200 * d.depth ≤ wt d + 200
  | .none, _ => ⟨rfl, rfl, by decide, by simp only [PyData.depth]; omega⟩
  | .bool b, _ => by
    refine ⟨rfl, rfl, ?_, by simp only [PyData.depth]; omega⟩
    cases b <;> decide
  | .int i, h => by
    have h' : decide (i.natAbs < 10 ^ 500) = true := by rw [pl] at h; exact h
    obtain ⟨a1, a2⟩ := int_len2 (of_decide_eq_true h')
    have w0 : 40 ≤ wt (.int i) := by
      rw [wt]
      split
      · exact Nat.le_refl _
      · decide
    refine ⟨by simp only [PyData.showable, decide_eq_true_iff]; exact a2, rfl, ?_, by rw [PyData.depth]; omega⟩
    rw [PyData.shown, wt]
    split
    · rename_i hb
      exact int_len hb
    · exact a1
  | .str z, h => by
    refine ⟨rfl, rfl, ?_, by simp only [PyData.depth]; omega⟩
    simp only [PyData.shown, wt]
    refine StrLaws.reprText_len z fun ch hc => ?_
    have h2 : (z.cps.toList.all fun ch => decide (ch < 1000)) = true := by simpa only [pl] using h
    have h3 := of_decide_eq_true (List.all_eq_true.mp h2 ch hc)
    have e : (16 : Nat) ^ 8 = 4294967296 := by decide
    omega
  | .list ds, h => by
    obtain ⟨h1, h2, h3, h4, h5⟩ := showsAll ds (by simpa only [pl] using h)
    have t := listText_len_le (PyData.shownAll ds)
    refine ⟨by simp only [PyData.showable]; exact h1, by simp only [PyData.hasDict]; exact h2, ?_, ?_⟩
    · simp only [PyData.shown, wt]
      omega
    · simp only [PyData.depth, wt]
      omega
  | .tuple ds, h => by
    obtain ⟨h1, h2, h3, h4, h5⟩ := showsAll ds (by simpa only [pl] using h)
    have t := tupleText_len_le (PyData.shownAll ds)
    refine ⟨by simp only [PyData.showable]; exact h1, by simp only [PyData.hasDict]; exact h2, ?_, ?_⟩
    · simp only [PyData.shown, wt]
      omega
    · simp only [PyData.depth, wt]
      omega
  | .dict _, h => absurd (show false = true by simpa only [pl] using h) Bool.false_ne_true
theorem showsAll : ∀ ds : List PyData, pls ds = true → PyData.showableAll ds = true ∧ PyData.hasDictAll ds = false ∧ ((PyData.shownAll ds).map (·.length)).sum + 2 * (PyData.shownAll ds).length ≤ wts ds ∧ 200 * PyData.depthAll ds ≤ wts ds + 200 ∧ (PyData.shownAll ds).length = ds.length
  | [], _ => by simp [PyData.showableAll, PyData.hasDictAll, PyData.shownAll, PyData.depthAll, wts]
  | d :: r, h => by
    have h' : pl d = true ∧ pls r = true := by simpa [pls] using h
    obtain ⟨a1, a2, a3, a4⟩ := shows d h'.1
    obtain ⟨b1, b2, b3, b4, b5⟩ := showsAll r h'.2
    refine ⟨by simp only [PyData.showableAll, a1, b1, Bool.and_self], by simp only [PyData.hasDictAll, a2, b2, Bool.or_self], ?_, ?_, by simp only [PyData.shownAll, List.length_cons, b5]⟩
    · simp only [PyData.shownAll, List.map_cons, List.sum_cons, List.length_cons, wts]
      omega
    · simp only [PyData.depthAll, wts]
      omega
end
mutual
theorem wt_depth : ∀ d : PyData, pl d = true → 200 * d.depth ≤ wt d + 200
  | .none, _ => by simp only [PyData.depth]; omega
  | .bool _, _ => by simp only [PyData.depth]; omega
  | .int _, _ => by simp only [PyData.depth]; omega
  | .str _, _ => by simp only [PyData.depth]; omega
  | .list ds, h => by
    have := wts_depth ds (by simpa only [pl] using h)
    simp only [PyData.depth, wt]
    omega
  | .tuple ds, h => by
    have := wts_depth ds (by simpa only [pl] using h)
    simp only [PyData.depth, wt]
    omega
  | .dict _, h => by simp [pl] at h
theorem wts_depth : ∀ ds : List PyData, pls ds = true → 200 * PyData.depthAll ds ≤ wts ds + 200
  | [], _ => by simp [PyData.depthAll]
  | d :: r, h => by
    have h' : pl d = true ∧ pls r = true := by simpa [pls] using h
    have a := wt_depth d h'.1
    have b := wts_depth r h'.2
    simp only [PyData.depthAll, wts]
    omega
end
theorem pl_mem {d : PyData} : ∀ {ds : List PyData}, pls ds = true → d ∈ ds → pl d = true
  | x :: r, hp, h => by
    have h' : pl x = true ∧ pls r = true := by simpa [pls] using hp
    rcases List.mem_cons.mp h with e | h
    · rw [e]
      exact h'.1
    · exact pl_mem h'.2 h
theorem pls_of : ∀ {ds : List PyData}, (∀ d ∈ ds, pl d = true) → pls ds = true
  | [], _ => rfl
  | x :: r, h => by
    rw [pls, h x List.mem_cons_self, pls_of fun d hd => h d (List.mem_cons_of_mem _ hd)]
    rfl
/-- small: no dict, not heavy -/
def Sm (n : Nat) (d : PyData) : Prop := pl d = true ∧ wt d ≤ n
theorem Sm.depth {n : Nat} {d : PyData} (h : Sm n d) (hn : n ≤ 11800) : d.depth ≤ 60 := by
  have := wt_depth d h.1
  have := h.2
  omega
theorem Sm.tup {n : Nat} {ds : List PyData} (h : Sm n (.tuple ds)) : ∀ d ∈ ds, Sm n d := fun d hd => by
  have h1 : pls ds = true := by simpa only [pl] using h.1
  have h2 := h.2
  rw [wt] at h2
  have h3 := wt_mem hd
  exact ⟨pl_mem h1 hd, by omega⟩
theorem Sm.lst {n : Nat} {ds : List PyData} (h : Sm n (.list ds)) : ∀ d ∈ ds, Sm n d := fun d hd => by
  have h1 : pls ds = true := by simpa only [pl] using h.1
  have h2 := h.2
  rw [wt] at h2
  have h3 := wt_mem hd
  exact ⟨pl_mem h1 hd, by omega⟩

theorem eqv_str (a b : Str) : PyData.eqv (.str a) (.str b) = decide (a = b) := by
  rw [Bool.eq_iff_iff, decide_eq_true_iff]
  simp [PyData.eqv]
theorem at_nat {α : Type} {xs : List α} {i : Nat} {x : α} (h : xs[i]? = some x) : atI xs (i : Int) = some x := by
  unfold atI
  have hi := (List.getElem?_eq_some_iff.mp h).1
  have : ixN xs.length (i : Int) = some i := by
    unfold ixN
    rw [if_pos (by omega), if_pos (by omega)]
    simp
  rw [this]
  exact h
theorem at_last {α : Type} {xs : List α} {x : α} {n : Nat} (hl : xs.length = n + 1) (h : xs[n]? = some x) : atI xs (-1) = some x := by
  unfold atI
  have : ixN xs.length (-1) = some n := by
    unfold ixN
    rw [if_neg (by omega), if_pos (by omega)]
    simp
    omega
  rw [this]
  exact h
theorem in_tup {x : PyData} {ds : List PyData} (h : x.depth ≤ 60) (neg : Bool) : inD neg x (.tuple ds) = some (.bool (if neg then !inB x ds else inB x ds)) := by
  cases x <;> exact if_pos (e := (none : Option PyData)) h

theorem at_draw {α : Type} {xs : List α} {r : Int} (h0 : 0 ≤ r) (h1 : r < xs.length) : ∃ x, atI xs r = some x ∧ x ∈ xs := by
  obtain ⟨n, rfl⟩ : ∃ n : Nat, r = (n : Int) := ⟨r.toNat, by omega⟩
  have hn : n < xs.length := by omega
  exact ⟨xs[n], at_nat (List.getElem?_eq_getElem hn), List.getElem_mem hn⟩
theorem addL {a b : List PyData} (h : a.length + b.length ≤ 1000000) : addD (.list a) (.list b) = some (.list (a ++ b)) := if_pos h
theorem addT {a b : List PyData} (h : a.length + b.length ≤ 1000000) : addD (.tuple a) (.tuple b) = some (.tuple (a ++ b)) := if_pos h
theorem mulL {a : List PyData} {k : Nat} (h : k ≤ 1000) (g : a.length ≤ 1000) : mulD (.list a) (.int (k : Int)) = some (.list (List.replicate k a).flatten) := by
  show (if (decide (0 ≤ (k : Int) ∧ (k : Int) ≤ 1000) && decide (a.length ≤ 1000)) = true then some (PyData.list (List.replicate (k : Int).toNat a).flatten) else none) = _
  rw [if_pos (by rw [decide_eq_true (by omega), decide_eq_true g]; rfl)]
  rfl
theorem mulT {a : List PyData} {k : Nat} (h : k ≤ 1000) (g : a.length ≤ 1000) : mulD (.tuple a) (.int (k : Int)) = some (.tuple (List.replicate k a).flatten) := by
  show (if (decide (0 ≤ (k : Int) ∧ (k : Int) ≤ 1000) && decide (a.length ≤ 1000)) = true then some (PyData.tuple (List.replicate (k : Int).toNat a).flatten) else none) = _
  rw [if_pos (by rw [decide_eq_true (by omega), decide_eq_true g]; rfl)]
  rfl

theorem sm_tup {n m N : Nat} {ds : List PyData} (h : ∀ d ∈ ds, Sm n d) (l : ds.length ≤ m) (w : 200 + m * (n + 2) ≤ N) : Sm N (.tuple ds) := by
  refine ⟨by rw [pl]; exact pls_of fun d hd => (h d hd).1, ?_⟩
  have := wts_of fun d hd => (h d hd).2
  have : ds.length * (n + 2) ≤ m * (n + 2) := Nat.mul_le_mul_right _ l
  rw [wt]
  omega
theorem sm_lst {n m N : Nat} {ds : List PyData} (h : ∀ d ∈ ds, Sm n d) (l : ds.length ≤ m) (w : 200 + m * (n + 2) ≤ N) : Sm N (.list ds) := by
  refine ⟨by rw [pl]; exact pls_of fun d hd => (h d hd).1, ?_⟩
  have := wts_of fun d hd => (h d hd).2
  have : ds.length * (n + 2) ≤ m * (n + 2) := Nat.mul_le_mul_right _ l
  rw [wt]
  omega
theorem Sm.le {n m : Nat} {d : PyData} (h : Sm n d) (l : n ≤ m) : Sm m d := ⟨h.1, Nat.le_trans h.2 l⟩
theorem sm_none : Sm 10 .none := ⟨rfl, by decide⟩
theorem sm_bool (b : Bool) : Sm 10 (.bool b) := ⟨rfl, by show 5 ≤ 10; decide⟩
theorem sm_int {i : Int} (h : i.natAbs < 10 ^ 31) : Sm 42 (.int i) := ⟨by rw [pl]; exact decide_eq_true (Nat.lt_of_lt_of_le h (by decide +kernel)), by rw [wt, if_pos h]; decide⟩
theorem sm_int2 {i : Int} (h : i.natAbs < 10 ^ 500) : Sm 510 (.int i) := ⟨by rw [pl]; exact decide_eq_true h, by
  rw [wt]
  split
  · decide
  · decide⟩
theorem flat1 {α : Type} (k : Nat) (x : α) : (List.replicate k [x]).flatten = List.replicate k x := by
  induction k with
  | zero => rfl
  | succ n ih => rw [List.replicate_succ, List.flatten_cons, ih]; rfl
/-- small things, so many at the most -/
def LS (n m : Nat) (ds : List PyData) : Prop := (∀ d ∈ ds, Sm n d) ∧ ds.length ≤ m
theorem ls_nil {n : Nat} : LS n 0 [] := ⟨fun d hd => by simp at hd, Nat.le_refl _⟩
theorem ls_cons {n m : Nat} {d : PyData} {ds : List PyData} (h : Sm n d) (h2 : LS n m ds) : LS n (m + 1) (d :: ds) := ⟨fun e he => by
  rcases List.mem_cons.mp he with rfl | he
  · exact h
  · exact h2.1 e he, Nat.succ_le_succ h2.2⟩
theorem ls_one {n : Nat} {d : PyData} (h : Sm n d) : LS n 1 [d] := ls_cons h ls_nil
theorem ls_app {n m k : Nat} {a b : List PyData} (h : LS n m a) (h2 : LS n k b) : LS n (m + k) (a ++ b) := ⟨fun e he => (List.mem_append.mp he).elim (h.1 e) (h2.1 e), by
  have := h.2
  have := h2.2
  rw [List.length_append]
  omega⟩
theorem ls_rep {n k : Nat} {d : PyData} (h : Sm n d) : LS n k (List.replicate k [d]).flatten := by
  rw [flat1]
  exact ⟨fun e he => by rw [List.eq_of_mem_replicate he]; exact h, by rw [List.length_replicate]; exact Nat.le_refl _⟩
theorem cut_sub {α : Type} {xs : List α} {lo hi : Option Int} {x : α} (h : x ∈ cutG xs lo hi) : x ∈ xs := List.mem_of_mem_drop (List.mem_of_mem_take h)
theorem cut_len {α : Type} (xs : List α) (lo hi : Option Int) : (cutG xs lo hi).length ≤ xs.length := by
  unfold cutG
  rw [List.length_take, List.length_drop]
  omega
theorem ls_cut {n m : Nat} {a : List PyData} {lo hi : Option Int} (h : LS n m a) : LS n m (cutG a lo hi) := ⟨fun e he => h.1 e (cut_sub he), Nat.le_trans (cut_len a lo hi) h.2⟩
theorem LS.mono {n m n' m' : Nat} {a : List PyData} (h : LS n m a) (h1 : n ≤ n') (h2 : m ≤ m') : LS n' m' a := ⟨fun d hd => (h.1 d hd).le h1, Nat.le_trans h.2 h2⟩
theorem ls_tup {n m N : Nat} {a : List PyData} (h : LS n m a) (w : 200 + m * (n + 2) ≤ N) : Sm N (.tuple a) := sm_tup h.1 h.2 w
theorem ls_lst {n m N : Nat} {a : List PyData} (h : LS n m a) (w : 200 + m * (n + 2) ≤ N) : Sm N (.list a) := sm_lst h.1 h.2 w
theorem ls_rev {n m : Nat} {a : List PyData} (h : LS n m a) : LS n m a.reverse := ⟨fun d hd => h.1 d (List.mem_reverse.mp hd), by rw [List.length_reverse]; exact h.2⟩
theorem optQ_at {xs : List PyData} {r : Int} {T : Nat} {Q : PyData → Nat → Prop} (h0 : 0 ≤ r) (h1 : r < xs.length) (h : ∀ x ∈ xs, Q x T) : optQ (atI xs r) T Q := by
  obtain ⟨x, e, m⟩ := at_draw h0 h1
  exact optQ_of e (h x m)
theorem at_back {α : Type} {xs : List α} {r : Int} (h0 : 0 ≤ r) (h1 : r < xs.length) : ∃ x, atI xs (r - 1) = some x ∧ x ∈ xs := by
  by_cases e : r = 0
  · subst e
    have : 0 < xs.length := by omega
    refine ⟨xs[xs.length - 1]'(by omega), ?_, List.getElem_mem _⟩
    unfold atI ixN
    simp
    rw [if_pos (by omega)]
    simp
    rw [show (-1 + (xs.length : Int)).toNat = xs.length - 1 by omega, List.getElem?_eq_getElem]
  · exact at_draw (by omega) (by omega)
theorem le_dn {n m : Nat} (h : Nat.ble n m = true) : n ≤ m := Nat.le_of_ble_eq_true h

theorem depth_all {n : Nat} : ∀ {ds : List PyData}, (∀ d ∈ ds, d.depth ≤ n) → PyData.depthAll ds ≤ n
  | [], _ => by simp [PyData.depthAll]
  | d :: r, h => by
    have h1 := h d List.mem_cons_self
    have h2 := depth_all fun x hx => h x (List.mem_cons_of_mem _ hx)
    simp only [PyData.depthAll]
    omega
end Dv
set_option Elab.async false
set_option linter.all false
set_option maxRecDepth 100000
set_option maxHeartbeats 1000000
namespace Dv
open PySem PySem.Spec PyProof.Rows L2
/-! ### what is shown is a text -/
def Chr (s : Str) : Prop := ∀ c ∈ s.cps.toList, c < 0x110000
theorem ch_lt (c : Char) : c.toNat < 0x110000 := by
  have h := c.valid
  show c.val.toNat < 0x110000
  rcases h with h | h
  · have : c.val.toNat < 0xd800 := h
    omega
  · exact h.2
theorem chr_of (s : String) : Chr (Str.ofString s) := fun c hc => by
  rw [Str.ofString_eq_toList] at hc
  have hc' : c ∈ s.toList.map Char.toNat := by simpa using hc
  obtain ⟨d, _, rfl⟩ := List.mem_map.mp hc'
  exact ch_lt d
theorem chr_app {a b : Str} (ha : Chr a) (hb : Chr b) : Chr (a ++ b) := fun c hc => by
  rw [Str.cps_append, Array.toList_append] at hc
  rcases List.mem_append.mp hc with hc | hc
  · exact ha c hc
  · exact hb c hc
theorem chr_text : ∀ (ts : List Str) (k : Nat) (acc : Str), Chr acc → (∀ t ∈ ts, Chr t) → Chr (textFrom k acc ts)
  | [], k, acc, ha, _ => ha
  | t :: r, k, acc, ha, ht => chr_text r (k + 1) _ (chr_app (chr_app ha (chr_of _)) (ht t List.mem_cons_self)) fun x hx => ht x (List.mem_cons_of_mem _ hx)
theorem chr_join : ∀ ts : List Str, (∀ t ∈ ts, Chr t) → Chr (Str.join ", " ts)
  | [], _ => fun c hc => by
    have : c ∈ ([] : List Nat) := hc
    cases this
  | [x], h => h x List.mem_cons_self
  | x :: y :: r, h => chr_app (chr_app (h x List.mem_cons_self) (chr_of _)) (chr_join (y :: r) fun z hz => h z (List.mem_cons_of_mem _ hz))
theorem chr_hex (c w : Nat) : ∀ d ∈ List.replicate (w - ((Nat.toDigits 16 c).map Char.toNat).length) 48 ++ (Nat.toDigits 16 c).map Char.toNat, d < 0x110000 := fun d hd => by
  rcases List.mem_append.mp hd with hd | hd
  · rw [List.eq_of_mem_replicate hd]
    decide
  · obtain ⟨x, _, rfl⟩ := List.mem_map.mp hd
    exact ch_lt x
theorem chr_rep {q c : Nat} (hc : c < 0x110000) : ∀ d ∈ PySem.Builtin.Str.reprChar q c, d < 0x110000 := fun d hd => by
  have two : ∀ {a b : Nat}, a < 0x110000 → b < 0x110000 → ∀ {d : Nat}, d ∈ [a, b] → d < 0x110000 := fun {a b} ha hb {d} hd => by
    rcases List.mem_cons.mp hd with rfl | hd
    · exact ha
    · rw [List.mem_singleton.mp hd]
      exact hb
  have app : ∀ {a b w : Nat}, a < 0x110000 → b < 0x110000 → ∀ {d : Nat}, d ∈ [a, b] ++ (List.replicate (w - ((Nat.toDigits 16 c).map Char.toNat).length) 48 ++ (Nat.toDigits 16 c).map Char.toNat) → d < 0x110000 := fun {a b w} ha hb {d} hd => by
    rcases List.mem_append.mp hd with hd | hd
    · exact two ha hb hd
    · exact chr_hex c w d hd
  unfold PySem.Builtin.Str.reprChar at hd
  simp only at hd
  split at hd
  · exact two (by decide) hc hd
  split at hd
  · exact two (by decide) (by decide) hd
  split at hd
  · exact two (by decide) (by decide) hd
  split at hd
  · exact two (by decide) (by decide) hd
  split at hd
  · rw [List.mem_singleton.mp hd]
    exact hc
  split at hd
  · exact app (by decide) (by decide) hd
  split at hd
  · exact app (by decide) (by decide) hd
  · exact app (by decide) (by decide) hd
theorem chr_fold (q : Nat) : ∀ (l : List Nat) (acc : Array Nat), (∀ c ∈ l, c < 0x110000) → (∀ c ∈ acc.toList, c < 0x110000) → ∀ c ∈ (l.foldl (fun out c => out ++ (PySem.Builtin.Str.reprChar q c).toArray) acc).toList, c < 0x110000
  | [], acc, _, ha => ha
  | x :: r, acc, hl, ha => chr_fold q r _ (fun c hc => hl c (List.mem_cons_of_mem _ hc)) fun c hc => by
    rw [Array.toList_append] at hc
    rcases List.mem_append.mp hc with hc | hc
    · exact ha c hc
    · exact chr_rep (hl x List.mem_cons_self) c (by simpa using hc)
theorem chr_str {z : Str} (h : Chr z) : Chr (reprText z) := fun c hc => by
  have hq : reprQuote z < 0x110000 := by
    unfold reprQuote
    split <;> decide
  unfold reprText at hc
  simp only [Array.toList_push] at hc
  rcases List.mem_append.mp hc with hc | hc
  · rw [← Array.foldl_toList] at hc
    exact chr_fold _ _ _ h (fun d hd => by simp at hd; rw [hd]; exact hq) c hc
  · rw [List.mem_singleton.mp hc]
    exact hq
mutual
theorem chr_shown : ∀ d : PyData, pl d = true → Chr d.shown
  | .none, _ => chr_of _
  | .bool b, _ => by
    cases b
    · exact chr_of _
    · exact chr_of _
  | .int i, h => chr_of _
  | .str z, h => chr_str fun c hc => by
    have h2 : (z.cps.toList.all fun ch => decide (ch < 1000)) = true := by simpa only [pl] using h
    have h3 := of_decide_eq_true (List.all_eq_true.mp h2 c hc)
    omega
  | .list ds, h => by
    simp only [PyData.shown]
    exact chr_app (chr_text _ _ _ (chr_of _) (chr_shownAll ds (by simpa only [pl] using h))) (chr_of _)
  | .tuple ds, h => by
    simp only [PyData.shown]
    exact chr_app (chr_app (chr_of _) (chr_join _ (chr_shownAll ds (by simpa only [pl] using h)))) (chr_of _)
  | .dict _, h => absurd (show false = true by simpa only [pl] using h) Bool.false_ne_true
theorem chr_shownAll : ∀ ds : List PyData, pls ds = true → ∀ t ∈ PyData.shownAll ds, Chr t
  | [], _ => fun t ht => by simp [PyData.shownAll] at ht
  | d :: r, h => fun t ht => by
    have h' : pl d = true ∧ pls r = true := by simpa [pls] using h
    simp only [PyData.shownAll] at ht
    rcases List.mem_cons.mp ht with rfl | ht
    · exact chr_shown d h'.1
    · exact chr_shownAll r h'.2 t ht
end
theorem repr_small {n : Nat} {d : PyData} (h : Sm n d) (hn : n ≤ 1000000) (hd : d.depth ≤ 100) : reprD d = some (.str d.shown) := by
  obtain ⟨a1, a2, a3, _⟩ := shows d h.1
  have l : d.shown.length ≤ 1000000 := Nat.le_trans a3 (Nat.le_trans h.2 hn)
  exact if_pos ⟨a1, a2, hd, l, sOk_of (chr_shown d h.1) l⟩
end Dv
set_option Elab.async false
set_option linter.all false
set_option maxRecDepth 100000
set_option maxHeartbeats 4000000
namespace Dv
open PySem PySem.Spec PyProof.Rows L2
/-! ### whole numbers of a list -/
def intsOf : List PyData → Option (List Int)
  | [] => some []
  | .int i :: r => (intsOf r).map (i :: ·)
  | _ => none
theorem intsOf_map (ns : List Int) : intsOf (ns.map PyData.int) = some ns := by
  induction ns with
  | nil => rfl
  | cons n r ih => rw [List.map_cons, intsOf, ih]; rfl
theorem intsOf_eq : ∀ {ds : List PyData} {ns : List Int}, intsOf ds = some ns → ds = ns.map PyData.int
  | [], ns, h => by cases h; rfl
  | d :: r, ns, h => by
    cases d with
    | int i =>
      rw [intsOf] at h
      cases e : intsOf r with
      | none => rw [e] at h; cases h
      | some m =>
        rw [e] at h
        cases h
        rw [intsOf_eq e]
        rfl
    | _ => cases h
def sumD : PyData → Option PyData
  | .list ds => (intsOf ds).map fun ns => .int ns.sum
  | _ => none
def maxLD : PyData → Option PyData
  | .list ds => (intsOf ds).bind fun ns => ns.max?.map .int
  | _ => none
def minLD : PyData → Option PyData
  | .list ds => (intsOf ds).bind fun ns => ns.min?.map .int
  | _ => none
theorem sumD_map (ns : List Int) : sumD (.list (ns.map PyData.int)) = some (.int ns.sum) := by
  show (intsOf _).map _ = _
  rw [intsOf_map]
  rfl
section
variable {X : Cx} {D : DC} {e : Expr} {f : DE} {es : List Expr} {g : DXs} {p pos : Pos}
theorem cad_sum (hc : X.calm = true) : CaD X (.builtin "sum") sumD := by
  refine ⟨_, cr_sum hc, fun w H v x z Q hO dx e q => ?_⟩
  unfold sumD at e
  split at e
  · rename_i ds
    cases ei : intsOf ds with
    | none => rw [ei] at e; cases e
    | some ns =>
      rw [ei] at e
      cases e
      have e2 := intsOf_eq ei
      subst e2
      obtain ⟨l, vs, rfl, e1, d1⟩ := dk_list dx
      have := d1.ints
      subst this
      exact ⟨l, ns, rfl, SqL.of e1, q _ H (Same.refl _) (.int _)⟩
  · cases e
theorem cad_max (hc : X.calm = true) : CaD X (.builtin "max") maxLD := by
  refine ⟨_, cr_max hc, fun w H v x z Q hO dx e q => ?_⟩
  unfold maxLD at e
  split at e
  · rename_i ds
    cases ei : intsOf ds with
    | none => rw [ei] at e; cases e
    | some ns =>
      rw [ei] at e
      have e3 : ns.max?.map PyData.int = some z := e
      cases em : ns.max? with
      | none => rw [em] at e3; cases e3
      | some m =>
        rw [em] at e3
        cases e3
        have e2 := intsOf_eq ei
        subst e2
        obtain ⟨l, vs, rfl, e1, d1⟩ := dk_list dx
        have := d1.ints
        subst this
        obtain ⟨m1, m2⟩ := List.max?_eq_some_iff.mp em
        refine ⟨l, ns, rfl, SqL.of e1, List.length_pos_of_mem m1, fun m' hm hx => ?_⟩
        have := hx m m1
        have := m2 m' hm
        obtain rfl : m' = m := by omega
        exact q _ H (Same.refl _) (.int _)
  · cases e
theorem cad_min (hc : X.calm = true) : CaD X (.builtin "min") minLD := by
  refine ⟨_, cr_min hc, fun w H v x z Q hO dx e q => ?_⟩
  unfold minLD at e
  split at e
  · rename_i ds
    cases ei : intsOf ds with
    | none => rw [ei] at e; cases e
    | some ns =>
      rw [ei] at e
      have e3 : ns.min?.map PyData.int = some z := e
      cases em : ns.min? with
      | none => rw [em] at e3; cases e3
      | some m =>
        rw [em] at e3
        cases e3
        have e2 := intsOf_eq ei
        subst e2
        obtain ⟨l, vs, rfl, e1, d1⟩ := dk_list dx
        have := d1.ints
        subst this
        obtain ⟨m1, m2⟩ := List.min?_eq_some_iff.mp em
        refine ⟨l, ns, rfl, SqL.of e1, List.length_pos_of_mem m1, fun m' hm hx => ?_⟩
        have := hx m m1
        have := m2 m' hm
        obtain rfl : m' = m := by omega
        exact q _ H (Same.refl _) (.int _)
  · cases e
/-- int(x) -/
def intD : PyData → Option PyData
  | .int i => some (.int i)
  | .bool b => some (.int (if b then 1 else 0))
  | _ => none
theorem cad_int : CaD X (.type "int") intD := by
  refine ⟨_, call_int1, fun w H v x z Q hO dx e q => ?_⟩
  unfold intD at e
  split at e
  · cases e
    exact .inl ⟨_, by rw [dk_int dx], q _ H (Same.refl _) (.int _)⟩
  · cases e
    exact .inr ⟨_, by rw [dk_bl dx], q _ H (Same.refl _) (.int _)⟩
  · cases e
/-! ### *x in a display -/
def xStar (f : DE) (g : DXs) : DXs := fun E T Q => f E T fun x T1 => match x with
  | .list ds => g E T1 fun xs T2 => Q (ds ++ xs) T2
  | .tuple ds => g E T1 fun xs T2 => Q (ds ++ xs) T2
  | _ => False
theorem pxd_star (h : PK X D e f) (hg : PXd X D es g) (hs : starEach (.Starred e p :: es) X.env = (true, eval e X.env) :: starEach es X.env := by rfl) : PXd X D (.Starred e p :: es) (xStar f g) := PA.imp (StX.pa_star h hg hs) fun σ H Q ⟨w, E, T, Qh, R, hf, q⟩ =>
  ⟨w, E, T, _, R, hf, fun x T1 v H1 s1 d1 h1 => by
    cases x with
    | list ds =>
      obtain ⟨l, vs, rfl, e1, d2⟩ := dk_list d1
      exact ⟨l, vs, rfl, .inr (SqL.of e1), w, E, T1, _, R.step s1, h1, fun xs T2 us H2 s2 d3 h2 => q _ T2 _ H2 (s1.trans s2) ((d2.ky s2.ky).append d3) h2⟩
    | tuple ds =>
      obtain ⟨l, vs, rfl, e1, d2⟩ := dk_tup d1
      exact ⟨l, vs, rfl, .inl (tz_up e1).sq, w, E, T1, _, R.step s1, h1, fun xs T2 us H2 s2 d3 h2 => q _ T2 _ H2 (s1.trans s2) ((d2.ky s2.ky).append d3) h2⟩
    | _ => exact h1.elim⟩
/-! ### globals that are texts or tuples -/
theorem pd_globS {x z : Str} {t : Tok} (hg : Gl X x) (hm : X.mg x = some (.str z t)) (k : sOk z = true := by decide +kernel) (hd : (x == ("__debug__" : Str)) = false := by decide) : PD X D (.Name x pos) (dC (.str z)) := pd_c (pe_glob (v := .str z) hg hm ⟨t, rfl⟩ hd) fun _ _ => .str _ k
/-- a tuple of whole numbers that the top has made -/
structure GT (K : PySem.W.Frag) (mg : Str → Option Value) (x : Str) (ns : List Int) : Prop where
  ex : ∃ (a : Addr) (its : Array Value) (n : Nat) (sl : Array (Option Value)), mg x = some (.ref a) ∧ K.lookup a = some ⟨.type "tuple", none, .seq its n, sl⟩ ∧ ns.length ≤ 1000 ∧ Vals (ns.map V.int) its.toList
theorem df_ints {K : PySem.W.Frag} {H : Hp} (ns : List Int) : DfAll K H (ns.map V.int) (ns.map PyData.int) := by
  induction ns with
  | nil => exact .nil
  | cons n r ih => exact .cons (.int n) ih
theorem df_strs {K : PySem.W.Frag} {H : Hp} {ns : List Str} (h : ∀ z ∈ ns, sOk z = true) : DfAll K H (ns.map V.str) (ns.map PyData.str) := by
  induction ns with
  | nil => exact .nil
  | cons n r ih => exact .cons (.str n (h n List.mem_cons_self)) (ih fun z hz => h z (List.mem_cons_of_mem _ hz))
theorem pd_globT {x : Str} {ns : List Int} (hg : Gl X x) (G : GT X.K X.mg x ns) (hd : (x == ("__debug__" : Str)) = false := by decide) : PD X D (.Name x pos) (dC (.tuple (ns.map PyData.int))) := by
  obtain ⟨a, its, n, sl, hm, hk, hl, hv⟩ := G.ex
  exact PE.imp (pe_glob (v := .ref a) hg hm rfl hd) fun σ H Q ⟨w, E, T, Qh, R, hf, q⟩ => q _ T _ H R.wd.refl (.tup (.inr ⟨_, its, n, hk, rfl, rfl, rfl, by rw [← Array.length_toList, ← hv.length, List.length_map]; exact Nat.le_trans hl (by decide), hv⟩) (df_ints ns)) hf
end
end Dv
set_option Elab.async false
set_option linter.all false
set_option maxRecDepth 100000
set_option maxHeartbeats 4000000
namespace Dv
open PySem PySem.Spec PyProof.Rows L2
/-! ### defs that show things: called where nothing is being shown -/
structure FnG (P : Program) (w : World) (K : PySem.W.Frag) (mg : Str → Option Value) (base : Heap) (k : Nat) (f : Addr) (fd : FuncData) (ps : List Str) (sp : Sp) : Prop where
  len : ∀ vs H Q E, sp vs H Q E → vs.length = ps.length
  at_ : ∀ A : Around, A.guards = some [] → Cv.FnAt A P w K mg base k f fd ps sp
theorem guards_deeper {A : Around} (h : A.guards = some []) (env : Env) : (A.deeper env).guards = some [] := h
section
variable {P : Program} {w : World} {K : PySem.W.Frag} {mg : Str → Option Value} {base : Heap} {tb : List Addr}
theorem fndG {x qual : Str} {st : Stmt} {f : Addr} {fd : FuncData} {N ps : List Str} {k : Nat} {G : DSp} (F : Fun K x qual st f fd) (S : FnScope N ps (defScope st)) (len : ∀ as T Q E, G as T Q E → as.length = ps.length)
    (body : ∀ (cdv : Value) (A : Around) (outer : List Env) (s : Shared) (H : Hp) (E : XK), Room k (A.deeper (envOfC qual (defScope st) s.heap.objs.size f cdv)) → (A.deeper (envOfC qual (defScope st) s.heap.objs.size f cdv)).guards = some [] →
      ∃ g, PSsd (cxOf CX0 P w K mg base N qual (defScope st) f cdv A outer s H E).nox (DC.no tb) (defBody st) g ∧ ∀ as T Qh Eh, G as T Qh Eh → g (startE N as) T { nx := fun _ T' => Qh (.d .none) T', rt := Qh }) :
    FnG P w K mg base (k + 1) f fd ps (spF K tb G) := by
  have hN : ps.length ≤ N.length := by have := congrArg List.length S.pre; rw [List.length_take] at this; omega
  have len' : ∀ vs H Q E, spF K tb G vs H Q E → vs.length = ps.length := fun vs H Q E h => by
    obtain ⟨_, _, _, as, T, Qh, Eh, ha, _, _, hG, _⟩ := h
    rw [paired_len ha]
    exact len as T Qh Eh hG
  refine ⟨len', fun A hg => Cv.fn_at F S len' (fun cdv outer s H vs Q E hr h => ?_)⟩
  obtain ⟨g, hg, hi⟩ := body cdv A outer s H E hr (guards_deeper hg _)
  refine ⟨_, hg, ?_⟩
  have hl := len' _ _ _ _ h
  obtain ⟨hp, p, c, as, T, Qh, Eh, ha, ht, hP, hG, q1, q2, q3⟩ := h
  exact body_of (X := (cxOf CX0 P w K mg base N qual (defScope st) f cdv A outer s H E).nox) (G := G) (sts := defBody st) (by omega) ha ht hP (fun _ _ _ _ z => z.elim) q1 q2 (hi as T Qh Eh hG)
end
section
variable {X : Cx} {D : DC} {e : Expr} {es : List Expr} {fa : DA} {p pos : Pos} {x : Str} {G : DSp} {k : Nat} {ps : List Str}
/-- such a def of the module, as it stands behind the top -/
structure AtG (P : Program) (w : World) (K : PySem.W.Frag) (mg : Str → Option Value) (base : Heap) (k : Nat) (tb : List Addr) (nm : Str) (ps : List Str) (G : DSp) : Prop where
  ex : ∃ f fd, FnG P w K mg base k f fd ps (spF K tb G) ∧ PySem.W.keepIn K (.ref f) = true ∧ Binds K fd ps [] ∧ mg nm = some (.ref f)
theorem pd_callG (F : AtG X.prog X.w X.K X.mg X.base k D.tb x ps G) (hr : Room k X.A) (hq : X.A.guards = some []) (hg : Gl X x) (ha : PAd X D (e :: es) fa) (hdb : (x == ("__debug__" : Str)) = false := by decide)
    (he : starEach (e :: es) X.env = (false, eval e X.env) :: starEach es X.env := by rfl) (hpl : (backTo pos (starEach es X.env)).any (·.1) = false := by rfl) : PD X D (.Call (.Name x p) (e :: es) [] pos) (dCall (fun _ => False) G fa) := by
  obtain ⟨f, fd, h1, h2, h3, h4⟩ := F.ex
  exact PE.imp (pe_callHat h1.len (fun outer s H args us vs Q E => (h1.at_ X.A hq).run outer s H args us vs Q E hr) hg h4 h2 h3 .nil L2.pass0 ha hdb he hpl) fun σ H Q ⟨w, Ev, T, Qh, R, hf, q⟩ => ⟨w, Ev, T, _, R, hf, fun as T1 vs H1 s1 d1 h1 =>
      call_run (fun _ h => h) outs_no (R.step s1).wd d1 h1 (fun x T' v H' s df hq => q x T' v H' (s1.trans s) df hq) (fun xs T' l us H' s df hq => q _ T' _ H' (s1.trans s.stp) (own_df s df) hq)⟩
end
end Dv
set_option Elab.async false
set_option linter.all false
set_option maxRecDepth 100000
set_option maxHeartbeats 4000000
namespace Dv
open PySem PySem.Spec PyProof.Rows L2
section
variable {X : Cx} {D : DC} {e e2 e3 : Expr} {f f2 f3 : DE} {p pos : Pos} {tg : Expr}
/-! ### x op= e -/
def dAug (i : Nat) (op : Int → Int → Int) (f : DE) : DS := fun E T D => match E[i]? with
  | some (.d (.int a)) => f E T fun y T1 => match y with
    | .int b => D.nx (E.set i (.d (.int (op a b)))) T1
    | _ => False
  | _ => False
theorem psd_aug {i : Nat} {x : Str} {op : Operator} {g : Int → Int → Int} {pos' : Pos} (ho : PIp X op (ipI g)) (hN : X.N.Nodup) (hi : X.N[i]? = some x) (hx : Loc X.env.scope x) (h : PD X D e f) (hf : X.fn x = true ∨ X.env.scope.names.lookup x = some .local := by first | exact .inl rfl | exact .inr rfl | assumption) :
    PSd X D (.AugAssign (.Name x pos') op e pos) (dAug i g f) := PS.imp (ps_aug hN hi hx h ho hf) fun Dn σ H ⟨w, E, T, Dh, R, hg, l⟩ => by
  unfold dAug at hg
  split at hg
  · rename_i a ea
    obtain ⟨v, e1, e2⟩ := R.sl i _ ea
    refine ⟨v, e1, w, E, T, _, R, hg, fun y T1 u H1 s d hy => ?_⟩
    cases y with
    | int b => exact ⟨a, b, df_int e2, df_int d, l.nx w _ T1 _ H1 s.ext ((R.step s).set (.int _)) hy⟩
    | _ => exact hy.elim
  · exact hg.elim
/-! ### x, y = a, b -/
def dPar (i j : Nat) (g : DXs) : DS := fun E T D => g E T fun xs T1 => match xs with
  | [x, y] => D.nx ((E.set i (.d x)).set j (.d y)) T1
  | _ => False
theorem psd_par {i j : Nat} {x y : Str} {a b : Expr} {g : DXs} {px py pt : Pos} {kt k2 pt2} (hc : X.calm = true) (hN : X.N.Nodup) (hi : X.N[i]? = some x) (hj : X.N[j]? = some y) (hij : i ≠ j)
    (hx : X.env.scope.names.lookup x = some .local) (hy : X.env.scope.names.lookup y = some .local) (ha : PXd X D [a, b] g)
    (hw : swappedStores [.Tuple [.Name x px, .Name y py] kt pt] (.Tuple [a, b] k2 pt2) X.env = pure (some [x, y]))
    (hs : swapsWithSole [.Tuple [.Name x px, .Name y py] kt pt] (.Tuple [a, b] k2 pt2) pos.line X.env = pure false := by rfl) :
    PSd X D (.Assign [.Tuple [.Name x px, .Name y py] kt pt] (.Tuple [a, b] k2 pt2) pos) (dPar i j g) := PS.imp (ps_par hc hN hi hj hij hx hy ha hw hs) fun Dn σ H ⟨w, E, T, Dh, R, hg, l⟩ => ⟨w, E, T, _, R, hg, fun xs T1 vs H1 s1 d1 h1 => by
  split at h1
  · cases d1 with
    | cons a1 d1 =>
      cases d1 with
      | cons a2 d1 =>
        cases d1
        exact ⟨_, _, rfl, l.nx w _ T1 _ H1 s1.ext (((R.step s1).set a1).set a2) h1⟩
  · exact h1.elim⟩
def dPar3 (i j k : Nat) (g : DXs) : DS := fun E T D => g E T fun xs T1 => match xs with
  | [x, y, z] => D.nx (((E.set i (.d x)).set j (.d y)).set k (.d z)) T1
  | _ => False
theorem psd_par3 {i j l : Nat} {x y z : Str} {a b c : Expr} {g : DXs} {px py pz pt : Pos} {kt k2 pt2} (hc : X.calm = true) (hN : X.N.Nodup) (hi : X.N[i]? = some x) (hj : X.N[j]? = some y) (hl : X.N[l]? = some z) (hij : i ≠ j) (hil : i ≠ l) (hjl : j ≠ l)
    (hx : X.env.scope.names.lookup x = some .local) (hy : X.env.scope.names.lookup y = some .local) (hz : X.env.scope.names.lookup z = some .local) (ha : PXd X D [a, b, c] g)
    (hw : swappedStores [.Tuple [.Name x px, .Name y py, .Name z pz] kt pt] (.Tuple [a, b, c] k2 pt2) X.env = pure (some [x, y, z]))
    (hs : swapsWithSole [.Tuple [.Name x px, .Name y py, .Name z pz] kt pt] (.Tuple [a, b, c] k2 pt2) pos.line X.env = pure false := by rfl) :
    PSd X D (.Assign [.Tuple [.Name x px, .Name y py, .Name z pz] kt pt] (.Tuple [a, b, c] k2 pt2) pos) (dPar3 i j l g) := PS.imp (ps_par3 hc hN hi hj hl hij hil hjl hx hy hz ha hw hs) fun Dn σ H ⟨w, E, T, Dh, R, hg, lk⟩ => ⟨w, E, T, _, R, hg, fun xs T1 vs H1 s1 d1 h1 => by
  split at h1
  · cases d1 with
    | cons a1 d1 =>
      cases d1 with
      | cons a2 d1 =>
        cases d1 with
        | cons a3 d1 =>
          cases d1
          exact ⟨_, _, _, rfl, lk.nx w _ T1 _ H1 s1.ext ((((R.step s1).set a1).set a2).set a3) h1⟩
  · exact h1.elim⟩
/-! ### range(a, b, c) -/
theorem rgc_up {i j c : Int} (h1 : 1 ≤ c) (h2 : c ≤ 1000000) (hi : -1000000000 ≤ i) (hi2 : i ≤ 1000000000) (hj : -1000000000 ≤ j) (hj2 : j ≤ 1000000000) : RgC i j c (if i < j then (((j - i - 1) / c).toNat + 1) else 0) := by
  have hs : Builtin.Range.rangeSize i j c = ((if i < j then (((j - i - 1) / c).toNat + 1) else 0 : Nat) : Int) := by
    unfold Builtin.Range.rangeSize
    rw [if_pos (by omega)]
    split
    · have := Int.ediv_nonneg (show 0 ≤ j - i - 1 by omega) (show 0 ≤ c by omega)
      omega
    · rfl
  have hb : Builtin.Range.rangeSize i j c ≤ 2000000001 ∧ 0 ≤ Builtin.Range.rangeSize i j c := by
    unfold Builtin.Range.rangeSize
    rw [if_pos (by omega)]
    split
    · have h0 := Int.ediv_nonneg (show 0 ≤ j - i - 1 by omega) (show 0 ≤ c by omega)
      have h3 : (j - i - 1) / c ≤ j - i - 1 := Int.ediv_le_self _ (by omega)
      omega
    · omega
  refine ⟨by omega, by omega, ?_, hs⟩
  unfold Builtin.Range.small
  have e1 : c > 0 := by omega
  simp only [Builtin.Range.rangeFitsLong, Bool.and_eq_true, Bool.or_eq_true, decide_eq_true_eq, beq_iff_eq, e1, if_true]
  omega
def rangeC (lo c : Int) (n : Nat) : List PyData := (List.range n).map fun (i : Nat) => .int (lo + (i : Nat) * c)
def iR3 (f f2 f3 : DE) : DIt := fun E T Q => f E T fun x T1 => f2 E T1 fun y T2 => f3 E T2 fun z T3 => match x, y, z with
  | .int i, .int j, .int c => ∃ n, RgC i j c n ∧ Q (rangeC i c n) T3
  | _, _, _ => False
theorem is_rangeC {K : PySem.W.Frag} {w : Wst} {H : Hp} {lo c : Int} {n : Nat} : IsIt false K w H (Itc lo c n) (rangeC lo c n) := by
  have hl : (rangeC lo c n).length = n := by
    unfold rangeC
    rw [List.length_map, List.length_range]
  refine ⟨_, fun i Ha v Hb => (Hb = Ha ∧ v = .int (lo + (i : Nat) * c)) ∧ i < n, ?_, fun _ _ _ => trivial, fun i Ha v Hb y => ?_⟩
  · rw [hl]
    have w := walk_rangeC (lo := lo) (c := c) (n := n)
    exact ⟨w.goes, w.stops, fun i H x H' hi g y => ⟨w.yields i H x H' hi g y, hi⟩⟩
  · obtain ⟨⟨rfl, rfl⟩, hi⟩ := y
    refine ⟨Same.refl _, .int (lo + (i : Nat) * c), ?_, fun _ _ => .int _⟩
    unfold rangeC
    rw [List.getElem?_map, List.getElem?_range hi]
    rfl
theorem pid_range3 (hg : Gl X "range") (hm : X.mg "range" = none) (h : PD X D e f) (h2 : PD X D e2 f2) (h3 : PD X D e3 f3)
    (hs : starEach [e, e2, e3] X.env = (false, eval e X.env) :: starEach [e2, e3] X.env := by rfl) (hs2 : starEach [e2, e3] X.env = (false, eval e2 X.env) :: starEach [e3] X.env := by rfl) (hs3 : starEach [e3] X.env = (false, eval e3 X.env) :: starEach [] X.env := by rfl) (hpl : (backTo pos (starEach [e2, e3] X.env)).any (·.1) = false := by rfl) : PId false X D tg (.Call (.Name "range" p) [e, e2, e3] [] pos) (iR3 f f2 f3) :=
  PI.imp (pi_range3 hg hm (pa_cons h (pa_cons h2 (pa_cons h3 pa_nil hs3) hs2) hs) hs hpl) fun σ H R ⟨w, E, T, Qh, Rr, hf, q⟩ => ⟨w, E, T, _, Rr, hf, fun x T' v H' s d hx => ⟨w, E, T', _, Rr.step s, hx, fun y T2 u H2 s2 d2 hy => ⟨w, E, T2, _, (Rr.step s).step s2, hy, fun z T3 u3 H3 s3 d3 hz => by
    split at hz
    · obtain ⟨n, hr, hq⟩ := hz
      exact ⟨_, _, _, n, by rw [df_int d, df_int d2, df_int d3], hr, q _ T3 _ H3 ((s.trans s2).trans s3) is_rangeC hq⟩
    · exact hz.elim⟩⟩⟩
/-! ### x.reverse(), x.clear() -/
def dMod0 (i : Nat) (g : List PyData → List PyData) : DS := fun E T D => match E[i]? with
  | some (.own xs) => D.nx (E.set i (.own (g xs))) T
  | _ => False
theorem psd_rev0 {i : Nat} {x : Str} {p1 ap cp : Pos} (hb : PE X (.Call (.Attribute (.Name x p1) "reverse" ap) [] [] cp) (tBM0 X.K "list" rReverse (tVar i)))
    (hs : swapsWith (.Call (.Attribute (.Name x p1) "reverse" ap) [] [] cp) none pos.line X.env = pure false := by rfl) : PSd X D (.Expr (.Call (.Attribute (.Name x p1) "reverse" ap) [] [] cp) pos) (dMod0 i List.reverse) := PS.imp (ps_expr hb hs) fun Dn σ H ⟨w, E, T, Dh, R, hg, l⟩ => by
  unfold dMod0 at hg
  split at hg
  · rename_i xs e
    obtain ⟨e1, e2, e3, us, e4, e5⟩ := R.sl i _ e
    obtain ⟨R3, x3⟩ := R.upd e e5.rev
    exact ⟨_, e1, .inl ⟨rfl, _, SqL.of e4⟩, _, _, rfl, rfl, e4, l.nx w _ T _ _ x3 R3 hg⟩
  · exact hg.elim
theorem psd_clear0 {i : Nat} {x : Str} {p1 ap cp : Pos} (hb : PE X (.Call (.Attribute (.Name x p1) "clear" ap) [] [] cp) (tBM0 X.K "list" rClear (tVar i)))
    (hs : swapsWith (.Call (.Attribute (.Name x p1) "clear" ap) [] [] cp) none pos.line X.env = pure false := by rfl) : PSd X D (.Expr (.Call (.Attribute (.Name x p1) "clear" ap) [] [] cp) pos) (dMod0 i fun _ => []) := PS.imp (ps_expr hb hs) fun Dn σ H ⟨w, E, T, Dh, R, hg, l⟩ => by
  unfold dMod0 at hg
  split at hg
  · rename_i xs e
    obtain ⟨e1, e2, e3, us, e4, e5⟩ := R.sl i _ e
    obtain ⟨R3, x3⟩ := R.upd e (DfAll.nil (K := X.K) (H := hidL w.O H))
    exact ⟨_, e1, .inl ⟨rfl, _, SqL.of e4⟩, _, _, rfl, rfl, e4, l.nx w _ T _ _ x3 R3 hg⟩
  · exact hg.elim
end
/-! ### [..] * n, our own -/
section
variable {X : Cx} {D : DC} {a b : Expr} {fa fb : DE} {pos : Pos}
def dRepO (fa fb : DE) : DOE := fun E T Q => fa E T fun x T1 => fb E T1 fun y T2 => match x, y with
  | .list xs, .int k => (xs.length ≤ 1000 ∧ -1000 ≤ k ∧ k ≤ 1000) ∧ Q (List.replicate k.toNat xs).flatten T2
  | _, _ => False
theorem pdo_rep (ha : PK X D a fa) (hb : PK X D b fb) : PDo X D (.BinOp a .Mult b pos) (dRepO fa fb) := PE.imp (pe_op op_rep ha hb) fun σ H Q ⟨w, E, T, Qh, R, hf, q⟩ =>
  ⟨w, E, T, _, R, hf, fun x T1 v H1 s1 d1 h1 => ⟨w, E, T1, _, R.step s1, h1, fun y T2 u H2 s2 d2 h2 => by
    have R2 := (R.step s1).step s2
    split at h2
    · rename_i xs k
      obtain ⟨la, va, rfl, ea, da⟩ := dk_list (d1.step s2)
      have hm : va.length * k.toNat ≤ 1000 * 1000 := Nat.mul_le_mul (by rw [da.len]; exact h2.1.1) (by omega)
      exact ⟨la, k, va, rfl, dk_int d2, ea, by omega, by omega, Nat.le_trans hm lim_line, fun p n => q _ T2 p _ _ (StpO.pre (s1.trans s2) (stpO_new R2.wd n)) (dfAll_own R2.wd n (da.rep _)) h2.2⟩
    · exact h2.elim⟩⟩
/-! ### xs[::-1] -/
def dRevO (f : DE) : DOE := fun E T Q => f E T fun x T1 => match x with
  | .list ds => Q ds.reverse T1
  | _ => False
theorem pdo_revL {k : Nat} {p1 p2 p3 : Pos} (h : PK X D a fa) : PDo X D (.Subscript a (.Slice none none (some (.UnaryOp .USub (.Constant (.int 1) k p1) p2)) p3) pos) (dRevO fa) := PE.imp (pe_revL h) fun σ H Q ⟨w, E, T, Qh, R, hf, q⟩ => ⟨w, E, T, _, R, hf, fun x T1 v H1 s1 d1 h1 => by
  cases x with
  | list ds =>
    obtain ⟨l, vs, rfl, e1, d2⟩ := dk_list d1
    exact ⟨l, vs, rfl, SqL.of e1, fun p n => q _ T1 p _ _ (StpO.pre s1 (stpO_new (R.step s1).wd n)) (dfAll_own (R.step s1).wd n d2.rev) h1⟩
  | _ => exact h1.elim⟩
/-! ### all, any of a list of truths -/
def boolsOf : List PyData → Option (List Bool)
  | [] => some []
  | .bool i :: r => (boolsOf r).map (i :: ·)
  | _ => none
theorem boolsOf_map (ns : List Bool) : boolsOf (ns.map PyData.bool) = some ns := by
  induction ns with
  | nil => rfl
  | cons n r ih => rw [List.map_cons, boolsOf, ih]; rfl
theorem boolsOf_eq : ∀ {ds : List PyData} {ns : List Bool}, boolsOf ds = some ns → ds = ns.map PyData.bool
  | [], ns, h => by cases h; rfl
  | d :: r, ns, h => by
    cases d with
    | bool i =>
      rw [boolsOf] at h
      cases e : boolsOf r with
      | none => rw [e] at h; cases h
      | some m =>
        rw [e] at h
        cases h
        rw [boolsOf_eq e]
        rfl
    | _ => cases h
theorem dbools {K : PySem.W.Frag} {H : Hp} : ∀ {ns : List Bool} {vs : List V}, DfAll K H vs (ns.map PyData.bool) → vs = ns.map V.bl
  | [], _, h => by cases h; rfl
  | n :: r, _, h => by
    cases h with
    | cons a b =>
      cases a
      rw [dbools b]
      rfl
def allD : PyData → Option PyData
  | .list ds => (boolsOf ds).map fun ns => .bool (ns.all id)
  | _ => none
def anyD : PyData → Option PyData
  | .list ds => (boolsOf ds).map fun ns => .bool (ns.any id)
  | _ => none
theorem cad_all (hc : X.calm = true) : CaD X (.builtin "all") allD := by
  refine ⟨_, cr_all hc, fun w H v x z Q hO dx e q => ?_⟩
  unfold allD at e
  split at e
  · rename_i ds
    cases ei : boolsOf ds with
    | none => rw [ei] at e; cases e
    | some ns =>
      rw [ei] at e
      cases e
      have e2 := boolsOf_eq ei
      subst e2
      obtain ⟨l, vs, rfl, e1, d1⟩ := dk_list dx
      have := dbools d1
      subst this
      exact ⟨l, ns, rfl, SqL.of e1, q _ H (Same.refl _) (.bl _)⟩
  · cases e
theorem cad_any (hc : X.calm = true) : CaD X (.builtin "any") anyD := by
  refine ⟨_, cr_any hc, fun w H v x z Q hO dx e q => ?_⟩
  unfold anyD at e
  split at e
  · rename_i ds
    cases ei : boolsOf ds with
    | none => rw [ei] at e; cases e
    | some ns =>
      rw [ei] at e
      cases e
      have e2 := boolsOf_eq ei
      subst e2
      obtain ⟨l, vs, rfl, e1, d1⟩ := dk_list dx
      have := dbools d1
      subst this
      exact ⟨l, ns, rfl, SqL.of e1, q _ H (Same.refl _) (.bl _)⟩
  · cases e
end
/-! ### try: some calls, under tests; except C as e: j = e -/
abbrev DB := Env' → Nat → (Nat → Prop) → (DX → Prop) → Prop
def tB (K : PySem.W.Frag) (D : DC) (W : WX) (g : DB) : TS := fun Dn σ H => ∃ w E T Nh Eh, Rp K D w E T σ H ∧ g E T Nh Eh ∧ (∀ T' H', Stp w T H T' H' → Nh T' → Dn.nx σ H') ∧ (∀ ex H', Ky (hidL w.O H) (hidL w.pc H') → (w.hp = true → Pur H' w.p w.c ex.T) → Eh ex → W (.ref ex.C) none σ H')
def PB (X : Cx) (D : DC) (W : WX) (sts : List Stmt) (g : DB) : Prop := PSs X sts (tB X.K D W g)
section
variable {X : Cx} {D : DC} {W : WX} {st : Stmt} {rest sts : List Stmt} {g g1 g2 : DB} {c : Expr} {t : DT} {pos p1 p2 p3 : Pos} {e : Expr} {es : List Expr} {fa : DA} {G : DSp} {k : Nat} {ps : List Str} {x : Str}
def bNil : DB := fun _ T N _ => N T
def bSeq (g1 g2 : DB) : DB := fun E T N Eh => g1 E T (fun T' => g2 E T' N Eh) Eh
theorem pb_nil : PB X D W [] bNil := PSs.imp pss_nil fun Dn σ H ⟨w, E, T, Nh, Eh, R, hg, l, m⟩ => l T H R.wd.refl hg
theorem stp_pc {w : Wst} {T T1 : Nat} {H H1 H2 : Hp} (s : Stp w T H T1 H1) (k : Ky (hidL w.O H1) (hidL w.pc H2)) : Ky (hidL w.O H) (hidL w.pc H2) := s.ky.trans k
theorem pb_cons (h1 : PS X st (tB X.K D W g1)) (h2 : PB X D W rest g2) : PB X D W (st :: rest) (bSeq g1 g2) := PSs.imp (pss_cons h1 h2) fun Dn σ H ⟨w, E, T, Nh, Eh, R, hg, l, m⟩ =>
  ⟨w, E, T, _, Eh, R, hg, fun T' H' s n => ⟨w, E, T', Nh, Eh, R.step s, n, fun T2 H2 s2 n2 => l T2 H2 (s.trans s2) n2, fun ex H2 k2 p2 q2 => m ex H2 (stp_pc s k2) p2 q2⟩, m⟩
def bIf (t : DT) (g1 g2 : DB) : DB := fun E T N Eh => t E T fun b T' => if b = true then g1 E T' N Eh else g2 E T' N Eh
theorem pb_if {a b : List Stmt} (hc : PTd X D c t) (ha : PB X D W a g1) (hb : PB X D W b g2) : PS X (.If c a b pos) (tB X.K D W (bIf t g1 g2)) := PS.imp (ps_if hc ha hb) fun Dn σ H ⟨w, E, T, Nh, Eh, R, hg, l, m⟩ => ⟨w, E, T, _, R, hg, fun b T' H' s hx => by
  cases b with
  | true => exact ⟨w, E, T', Nh, Eh, R.step s, hx, fun T2 H2 s2 n2 => l T2 H2 (s.trans s2) n2, fun ex H2 k2 p2 q2 => m ex H2 (stp_pc s k2) p2 q2⟩
  | false => exact ⟨w, E, T', Nh, Eh, R.step s, hx, fun T2 H2 s2 n2 => l T2 H2 (s.trans s2) n2, fun ex H2 k2 p2 q2 => m ex H2 (stp_pc s k2) p2 q2⟩⟩
def bCall (G : DSp) (fa : DA) : DB := fun E T N Eh => fa E T fun as T1 => G as T1 (fun _ T2 => N T2) Eh
theorem pb_call (tk : Takes X W) (F : AtD X.prog X.w X.K X.mg X.base k D.tb x ps G) (hr : Room k X.A) (hg : Gl X x) (ha : PAd X D (e :: es) fa) (hdb : (x == ("__debug__" : Str)) = false := by decide)
    (he : starEach (e :: es) X.env = (false, eval e X.env) :: starEach es X.env := by rfl) (hpl : (backTo p1 (starEach es X.env)).any (·.1) = false := by rfl) (hs : swapsWith (.Call (.Name x p2) (e :: es) [] p1) none p3.line X.env = pure false := by rfl) :
    PS X (.Expr (.Call (.Name x p2) (e :: es) [] p1) p3) (tB X.K D W (bCall G fa)) := by
  obtain ⟨f, fd, h1, h2, h3, h4⟩ := F.ex
  refine PS.imp (ps_expr (pe_callHS (p := p2) (sp := spF X.K D.tb G) (t := tA X.K D fa) (E := WE W) h1 hr hg h4 h2 h3 .nil (fun σ => passAt tk σ) ha hdb he hpl) hs) fun Dn σ H ⟨w, E, T, Nh, Eh, R, hf, l, m⟩ => ?_
  refine ⟨w, E, T, _, R, hf, fun as T1 vs H1 s1 d1 h5 => ?_⟩
  exact call_runS (X := X) (fun _ h => h) (fun ex H' ky hP hM => m ex H' (stp_pc s1 ky) hP hM) (R.step s1).wd d1 h5 (fun x T' v H' s df hq => l T' H' (s1.trans s) hq) (fun xs T' lo us H' s df hq => l T' H' (s1.trans s.stp) hq)
/-- .. with the errors it catches -/
def dTryB (i j : Nat) (M : Addr → Prop) (g : DB) : DS := fun E T D => g E T (fun T2 => D.nx E T2) (fun ex => M ex.C ∧ D.nx (((lose E).set j (.exc ex.C)).set i .no) ex.T)
variable {n cn : Str} {cv : Value} {i j : Nat} {st0 : Stmt} {np p4 : Pos}
theorem psd_tryB (hst : X.stack = X.env :: X.outer) (hfr : X.env.frame = some X.env.locals) (hex : X.ex = []) (nd : X.N.Nodup) (hni : X.N[i]? = some n) (hnl : X.env.kindOf n = some .local) (hnm : Names X cn cv) (hij : j ≠ i) (hi : i < X.N.length)
    (hbody : ∀ (W : WX) (pn : List (Addr × Obj)) (xe : Value → Shared → Prop), Takes (X.tr pn xe) W → PB (X.tr pn xe) D W sts g)
    (hsuite : ∀ (a : Addr) (oe : Obj) (cls : Value) (d : Option Addr) (pn : List (Addr × Obj)), Zc cls d oe → (∃ vs, oe.data = .fields vs) → PSs (X.suite a ((a, oe) :: pn)) [st0] (fun D σ H => ∃ v, σ[i]? = some (some v) ∧ D.nx (σ.set j (some v)) H)) :
    PSd X D (.Try sts [.ExceptHandler (some (.Name cn np)) (some n) [st0] p4] [] [] pos) (dTryB i j (fun C => PySem.W.exmOne X.K (.ref C) cv = some true) g) := by
  have key := Cv.ps_try_keep (X := X) (tb := fun W => tB X.K D W g) (x := cn) (n := n) (c := cv) (i := i) (st0 := st0) (su := []) (np := np) (pos := pos) (pos2 := p4) (ts := fun _ _ _ D σ H => ∃ v, σ[i]? = some (some v) ∧ D.nx (σ.set j (some v)) H) hst hfr hex nd hni hnl hnm
    (fun W pn xe tk _ => hbody W pn xe tk) hsuite
  refine ⟨fun pins s σ H Dn I q => key.run pins s σ H Dn I ?_⟩
  obtain ⟨w, Ev, T, Dh, R, hf, l⟩ := q
  have il : i < σ.length := by rw [I.len]; exact hi
  refine ⟨w, Ev, T, _, _, R, hf, fun T' H' s hq => l.nx w Ev T' σ H' s.ext (R.step s) hq, fun ex H' ky hP hM => ?_⟩
  obtain ⟨m1, m2⟩ := hM
  refine ⟨m1, ex.C, rfl, fun a na => ⟨.ref a, List.getElem?_set_self il, ?_⟩⟩
  obtain ⟨r1, x1⟩ := caught (i := i) (j := j) hij R ky hP na
  exact l.nx _ _ ex.T _ _ x1 r1 m2
end
/-! ### x is None, x data or an error that was caught -/
def dIsNv (i : Nat) : DT := fun E T Q => match E[i]? with
  | some (.d x) => Q (isN x) T
  | some (.exc _) => Q false T
  | _ => False
theorem ptd_isNv {X : Cx} {D : DC} {i : Nat} {x : Str} {p q pos : Pos} {j} (h : PE X (.Name x p) (tVar i)) : PTd X D (.Compare (.Name x p) [.Is] [.Constant .none j q] pos) (dIsNv i) := PT.imp (pt_cmpR op_isN h pe_non rfl) fun σ H Q ⟨w, E, T, Qh, R, hf, qq⟩ => by
  unfold dIsNv at hf
  split at hf
  · rename_i x e
    obtain ⟨v, e1, e2⟩ := R.sl i _ e
    refine ⟨v, e1, rfl, decide (v = V.non), rfl, ?_⟩
    have e3 : decide (v = V.non) = isN x := isN_v (w := w) (.inl e2)
    rw [e3]
    exact qq _ T H R.wd.refl hf
  · rename_i C e
    obtain ⟨a, e1, e2⟩ := R.sl i _ e
    exact ⟨_, e1, rfl, false, rfl, qq _ T H R.wd.refl hf⟩
  · exact hf.elim
end Dv
set_option Elab.async false
set_option linter.all false
set_option maxRecDepth 100000
set_option maxHeartbeats 1000000
namespace Dv
open PySem PySem.Spec PyProof.Rows L2
/-! ### loops over what is written down -/
theorem map_get {α β : Type} {f : α → β} {xs : List α} {i : Nat} {y : β} (h : (xs.map f)[i]? = some y) : ∃ x, xs[i]? = some x ∧ y = f x := by
  rw [List.getElem?_map] at h
  cases e : xs[i]? with
  | none => rw [e] at h; cases h
  | some x => rw [e] at h; cases h; exact ⟨x, rfl, rfl⟩
theorem take_succ {α : Type} {xs : List α} {i : Nat} {x : α} (h : xs[i]? = some x) : xs.take (i + 1) = xs.take i ++ [x] := by
  rw [List.take_add_one, h]
  rfl
theorem dFor_map {α : Type} (enc : α → PyData) {γ : DG} {body : DS} {ys : List α} {E : Env'} {T : Nat} {D : DEnds} (I : Nat → Env' → Nat → Prop) (h0 : I 0 E T)
    (hs : ∀ (i : Nat) (y : α) (E : Env') (T : Nat) (K : Env' → Nat → Prop), ys[i]? = some y → I i E T → (∀ E2 T2, I (i + 1) E2 T2 → K E2 T2) → γ (enc y) E fun E' => body E' T { D with nx := K, ct := K, bk := D.nx })
    (hd : ∀ E T, I ys.length E T → D.nx E T) : dFor γ body (ys.map enc) E T D := by
  refine dFor_ind I h0 (fun i x E T K hx hI hK => ?_) (fun E T h => hd E T (by rw [List.length_map] at h; exact h))
  obtain ⟨y, ey, rfl⟩ := map_get hx
  exact hs i y E T K ey hI hK
theorem dLc_map {α : Type} (enc : α → PyData) {γ : DG} {tt : DT} {te : DE} {ys : List α} {E : Env'} {T : Nat} {Q : List PyData → Nat → Prop} (p : α → Bool) (v : α → PyData) (hl : ys.length ≤ 1000000)
    (hs : ∀ (y : α) (Ky : PyData → Nat → Prop) (Kn : Nat → Prop), y ∈ ys → (p y = true → Ky (v y) T) → (p y = false → Kn T) → γ (enc y) E fun E' => tt E' T fun b T1 => if b = true then te E' T1 Ky else Kn T1)
    (hd : Q ((ys.filter p).map v) T) : dLcGo γ tt te (ys.map enc) E T [] Q := by
  refine dLcGo_ind (fun i acc T' => acc = ((ys.take i).filter p).map v ∧ T' = T) ⟨rfl, rfl⟩ (fun i x acc T' K hx h hK => ?_) (fun acc T' h => ?_)
  · obtain ⟨rfl, rfl⟩ := h
    obtain ⟨y, ey, rfl⟩ := map_get hx
    have hl2 : (((ys.take i).filter p).map v).length < 1000000 := by
      have h1 := (List.getElem?_eq_some_iff.mp ey).1
      have h2 := List.length_filter_le p (ys.take i)
      rw [List.length_take] at h2
      rw [List.length_map]
      omega
    have step : ∀ b, p y = b → ((ys.take (i + 1)).filter p).map v = ((ys.take i).filter p).map v ++ if b = true then [v y] else [] := fun b hb => by
      rw [List.take_add_one, ey, List.filter_append, List.map_append]
      cases b <;> simp [hb]
    exact hs y (fun z T2 => _ ∧ K (_ ++ [z]) T2) (fun T2 => K _ T2) (List.mem_of_getElem? ey) (fun h1 => ⟨hl2, hK _ _ ⟨by rw [step true h1]; rfl, rfl⟩⟩) (fun h1 => hK _ _ ⟨by rw [step false h1]; simp, rfl⟩)
  · obtain ⟨rfl, rfl⟩ := h
    rw [List.length_map, List.take_of_length_le (Nat.le_refl _)]
    exact hd
/-- .. all of them -/
theorem dLc_all {α : Type} (enc : α → PyData) {γ : DG} {tt : DT} {te : DE} {ys : List α} {E : Env'} {T : Nat} {Q : List PyData → Nat → Prop} (v : α → PyData) (hl : ys.length ≤ 1000000)
    (hs : ∀ (y : α) (Ky : PyData → Nat → Prop) (Kn : Nat → Prop), y ∈ ys → Ky (v y) T → γ (enc y) E fun E' => tt E' T fun b T1 => if b = true then te E' T1 Ky else Kn T1)
    (hd : Q (ys.map v) T) : dLcGo γ tt te (ys.map enc) E T [] Q := by
  refine dLc_map enc (fun _ => true) v hl (fun y Ky Kn hy h1 _ => hs y Ky Kn hy (h1 rfl)) ?_
  rw [List.filter_eq_self.mpr fun _ _ => rfl]
  exact hd
/-- a comprehension whose elements draw: each by P, in at most b draws -/
theorem dLc_draw {γ : DG} {tt : DT} {te : DE} {xs : List PyData} {E : Env'} {T : Nat} {Q : List PyData → Nat → Prop} (P : PyData → Prop) (b : Nat) (hl : xs.length ≤ 1000000)
    (hs : ∀ (x : PyData) (T1 : Nat) (Ky : PyData → Nat → Prop) (Kn : Nat → Prop), x ∈ xs → T1 ≤ T + b * xs.length → (∀ y T2, P y → T2 ≤ T1 + b → Ky y T2) → γ x E fun E' => tt E' T1 fun c T2 => if c = true then te E' T2 Ky else Kn T2)
    (hd : ∀ ys T2, ys.length = xs.length → (∀ y ∈ ys, P y) → T2 ≤ T + b * xs.length → Q ys T2) : dLcGo γ tt te xs E T [] Q := by
  refine dLcGo_ind (fun i acc T' => acc.length = i ∧ (∀ y ∈ acc, P y) ∧ T' ≤ T + b * i ∧ i ≤ xs.length) ⟨rfl, fun y hy => by simp at hy, Nat.le_refl _, Nat.zero_le _⟩ (fun i x acc T' K hx h hK => ?_) (fun acc T' h => ?_)
  · obtain ⟨h1, h2, h3, h4⟩ := h
    have hi := (List.getElem?_eq_some_iff.mp hx).1
    have hm : b * i ≤ b * xs.length := Nat.mul_le_mul_left b h4
    refine hs x T' _ _ (List.mem_of_getElem? hx) (by omega) fun y T2 hy ht => ⟨by omega, hK _ _ ⟨by rw [List.length_append, h1]; rfl, fun z hz => ?_, by rw [Nat.mul_succ]; omega, hi⟩⟩
    rcases List.mem_append.mp hz with hz | hz
    · exact h2 z hz
    · rw [List.mem_singleton.mp hz]
      exact hy
  · exact hd acc T' h.1 h.2.1 h.2.2.1
theorem dAll_map {α : Type} (enc : α → PyData) {vs : List Nat} {f : DIt} {γ : DG} {te : DE} {E : Env'} {T : Nat} {Q : PyData → Nat → Prop} (ys : List α) (p : α → Bool) (hf : ∀ R : List PyData → Nat → Prop, R (ys.map enc) T → f E T R)
    (h : ∀ y ∈ ys, γ (enc y) (wipeE E vs) fun E' => te E' T fun z T2 => z = .bool (p y) ∧ T2 = T) (q : Q (.bool (ys.all p)) T) : dAll vs f γ te E T Q := by
  refine hf _ ⟨fun j => (ys[j]?.map p).getD true, fun j x hx => ?_, ?_⟩
  · obtain ⟨y, ey, rfl⟩ := map_get hx
    simp only [ey, Option.map_some, Option.getD_some]
    exact h y (List.mem_of_getElem? ey)
  · rw [List.length_map]
    have e : ((List.range ys.length).all fun j => (ys[j]?.map p).getD true) = ys.all p := by
      rw [Bool.eq_iff_iff, List.all_eq_true, List.all_eq_true]
      constructor
      · intro h y hy
        obtain ⟨j, hj, e⟩ := List.mem_iff_getElem.mp hy
        have := h j (List.mem_range.mpr hj)
        rw [List.getElem?_eq_getElem hj, e] at this
        exact this
      · intro h j hj
        have hj2 := List.mem_range.mp hj
        rw [List.getElem?_eq_getElem hj2]
        exact h _ (List.getElem_mem hj2)
    rw [e]
    exact q
/-! ### slices and ranges by natural numbers -/
theorem cut_nat {α : Type} {xs : List α} {a b : Nat} (ha : a ≤ xs.length) (hb : b ≤ xs.length) : cutG xs (some (a : Int)) (some (b : Int)) = (xs.drop a).take (b - a) := by
  unfold cutG
  have h1 : HT.sIx xs.length 0 (some (a : Int)) = a := by
    show (if (a : Int) < 0 then ((a : Int) + (xs.length : Int)).toNat else min (a : Int).toNat xs.length) = _
    rw [if_neg (by omega)]
    omega
  have h2 : HT.sIx xs.length xs.length (some (b : Int)) = b := by
    show (if (b : Int) < 0 then ((b : Int) + (xs.length : Int)).toNat else min (b : Int).toNat xs.length) = _
    rw [if_neg (by omega)]
    omega
  rw [h1, h2]
theorem cut_from {α : Type} {xs : List α} {a : Nat} : cutG xs (some (a : Int)) none = xs.drop a := by
  unfold cutG
  have h1 : HT.sIx xs.length 0 (some (a : Int)) = min a xs.length := by
    show (if (a : Int) < 0 then ((a : Int) + (xs.length : Int)).toNat else min (a : Int).toNat xs.length) = _
    rw [if_neg (by omega)]
    omega
  have h2 : HT.sIx xs.length xs.length none = xs.length := rfl
  rw [h1, h2]
  by_cases h : a ≤ xs.length
  · rw [Nat.min_eq_left h, List.take_of_length_le (by rw [List.length_drop]; omega)]
  · rw [Nat.min_eq_right (by omega), List.drop_of_length_le (Nat.le_refl _), List.drop_of_length_le (by omega)]
    simp
theorem cut_minus1 {α : Type} {xs : List α} : cutG xs none (some (-1)) = xs.take (xs.length - 1) := by
  unfold cutG
  have h1 : HT.sIx xs.length 0 none = 0 := rfl
  have h2 : HT.sIx xs.length xs.length (some (-1)) = xs.length - 1 := by
    show (if (-1 : Int) < 0 then ((-1 : Int) + (xs.length : Int)).toNat else min (-1 : Int).toNat xs.length) = _
    rw [if_pos (by decide)]
    omega
  rw [h1, h2, List.drop_zero, Nat.sub_zero]
theorem cut_mapG {α β : Type} (f : α → β) (xs : List α) (a b : Option Int) : cutG (xs.map f) a b = (cutG xs a b).map f := by
  unfold cutG
  rw [List.length_map, List.map_take, List.map_drop]
def iN (n : Nat) : PyData := .int (n : Int)
theorem rangeD_nat {n : Nat} : rangeD 0 n = (List.range n).map iN := by
  unfold rangeD iN
  refine List.map_congr_left fun i _ => ?_
  rw [Int.zero_add]
theorem rangeD_from {a : Nat} {n : Nat} : rangeD (a : Int) n = (List.range' a n).map iN := by
  unfold rangeD iN
  rw [List.range'_eq_map_range, List.map_map]
  refine List.map_congr_left fun i _ => ?_
  show PyData.int ((a : Int) + (i : Int)) = .int (((a + i : Nat) : Int))
  push_cast
  rfl
def rangeN (a c n : Nat) : List Nat := (List.range n).map fun i => a + c * i
theorem rangeC_nat {a c : Nat} {n : Nat} : rangeC (a : Int) (c : Int) n = (rangeN a c n).map iN := by
  unfold rangeC iN rangeN
  rw [List.map_map]
  refine List.map_congr_left fun i _ => ?_
  show PyData.int ((a : Int) + (i : Int) * (c : Int)) = .int (((a + c * i : Nat) : Int))
  push_cast
  rw [Int.mul_comm]
theorem at_int {ns : List Int} {i : Nat} {n : Int} (h : ns[i]? = some n) : atI (ns.map PyData.int) (i : Int) = some (.int n) := at_nat (by rw [List.getElem?_map, h]; rfl)
theorem at_map {α : Type} {f : α → PyData} {xs : List α} {i : Nat} {x : α} (h : xs[i]? = some x) : atI (xs.map f) (i : Int) = some (f x) := at_nat (by rw [List.getElem?_map, h]; rfl)
theorem at0 {x : PyData} {r : List PyData} : atI (x :: r) 0 = some x := at_nat (i := 0) rfl
theorem at1 {x y : PyData} {r : List PyData} : atI (x :: y :: r) 1 = some y := at_nat (i := 1) rfl
theorem at2 {x y z : PyData} {r : List PyData} : atI (x :: y :: z :: r) 2 = some z := at_nat (i := 2) rfl
/-- the rest of a block is set aside -/
theorem dSeq_hide {g1 g2 : DS} {E : Env'} {T : Nat} {D : DEnds} (h : ∀ g, g = g2 → g1 E T { D with nx := fun E' T' => g E' T' D }) : dSeq g1 g2 E T D := h g2 rfl
end Dv
set_option Elab.async false
set_option linter.all false
set_option maxRecDepth 100000
set_option maxHeartbeats 4000000
namespace Dv
open PySem PySem.Spec PyProof.Rows L2
/-! ### trees of own lists -/
theorem hid_app {O : List Addr} {H : Hp} (as : List Addr) : Same (hidL (as ++ O) H) (hidL O H) := hidL_sub fun a ha => List.mem_append_right _ ha
structure StpT (w : Wst) (T : Nat) (H : Hp) (T' : Nat) (H' : Hp) (as : List Addr) : Prop where
  nd : as.Nodup
  new : ∀ a ∈ as, a ∉ w.O ∧ w.off a ∧ ∃ xs, H' a = some (.lst xs)
  ky : Ky (hidL w.O H) (hidL (as ++ w.O) H')
  same : ∀ a ∈ w.O, w.off a → H' a = H a
  pur : w.hp = true → Pur H' w.p w.c T'
def Wst.growT (w : Wst) (n : Nat) (as : List Addr) : Wst := { w with O := as ++ w.O, tag := fun a => if a ∈ as then n else w.tag a }
section
variable {K : PySem.W.Frag} {D : DC} {w : Wst} {E : Env'} {σ : L2.St} {T T1 T2 : Nat} {H H1 H2 : Hp}
theorem StpT.stp {as : List Addr} (s : StpT w T H T1 H1 as) : Stp w T H T1 H1 := ⟨s.ky.trans (Ky.of (hid_app as)), s.same, s.pur⟩
theorem Stp.t (s : Stp w T H T1 H1) : StpT w T H T1 H1 [] := ⟨.nil, fun a ha => absurd ha List.not_mem_nil, s.ky, s.same, s.pur⟩
theorem StpO.t {l : Addr} {vs : List V} (s : StpO w T H T1 H1 l vs) : StpT w T H T1 H1 [l] := by
  refine ⟨List.nodup_cons.mpr ⟨List.not_mem_nil, .nil⟩, fun a ha => ?_, s.ky, s.same, s.pur⟩
  rw [List.mem_singleton.mp ha]
  exact ⟨s.new, s.off, vs, s.at_⟩
theorem StpT.pre {as : List Addr} (s : Stp w T H T1 H1) (x : StpT w T1 H1 T2 H2 as) : StpT w T H T2 H2 as := ⟨x.nd, x.new, s.ky.trans x.ky, fun a ha ho => (x.same a ha ho).trans (s.same a ha ho), x.pur⟩
theorem trall_d {Hv : Hp} : ∀ {xs : List PyData} {vs : List V}, DfAll K Hv vs xs → TrAll K Hv H vs (xs.map .d) []
  | [], _, h => by cases h; exact .nil
  | x :: r, _, h => by
    cases h with
    | cons a b => exact TrAll.cons (as := []) (.d a) (trall_d b)
theorem TrAll.app {Hv : Hp} : ∀ {ts ss : List Tr} {vs us : List V} {as bs : List Addr}, TrAll K Hv H vs ts as → TrAll K Hv H us ss bs → TrAll K Hv H (vs ++ us) (ts ++ ss) (as ++ bs)
  | [], _, _, _, _, _, h, g => by cases h; exact g
  | t :: ts, _, _, _, _, _, h, g => by
    cases h with
    | cons a b =>
      rw [List.append_assoc]
      exact .cons a (TrAll.app b g)
theorem TrAll.len {Hv : Hp} : ∀ {ts : List Tr} {vs : List V} {as : List Addr}, TrAll K Hv H vs ts as → vs.length = ts.length
  | [], _, _, h => by cases h; rfl
  | t :: ts, _, _, h => by
    cases h with
    | cons a b => rw [List.length_cons, List.length_cons, TrAll.len b]
/-- new lists are set apart -/
theorem Rp.growT {n : Nat} {as : List Addr} (r : Rp K D w E T σ H) (s : StpT w T H T1 H1 as) : Rp K D (w.growT n as) E T1 σ H1 := by
  have r1 := r.step s.stp
  have off : ∀ {a : Addr}, a ∈ w.O → a ∉ as := fun {a} h z => (s.new a z).1 h
  have tgo : ∀ {a : Addr}, a ∈ w.O → (w.growT n as).tag a = w.tag a := fun {a} h => if_neg (off h)
  refine ⟨⟨r.wd.ky.trans s.ky, fun P hP => s.ky.tb P (r.wd.tab P hP), fun a ha => ?_, fun h => ⟨s.pur h, List.mem_append_right _ (r.wd.pur h).2.1, List.mem_append_right _ (r.wd.pur h).2.2⟩, r.wd.exl⟩, r.len, fun j y e => ?_, r.inj, fun j xs e => ?_⟩
  · rcases List.mem_append.mp ha with ha | ha
    · exact (s.new a ha).2.2
    · exact r1.wd.lst a ha
  · have h := r.sl j y e
    cases y with
    | no => trivial
    | d x =>
      obtain ⟨v, e1, e2⟩ := h
      exact ⟨v, e1, e2.ky s.ky⟩
    | own zs =>
      obtain ⟨g1, g2, g3, us', g4, g5⟩ := h
      exact ⟨g1, List.mem_append_right _ g2, g3, us', by rw [show (w.growT n as).adr j = w.adr j from rfl, s.same _ g2 g3]; exact g4, g5.ky s.ky⟩
    | pur => exact h
    | exc C =>
      obtain ⟨a, g1, g2⟩ := h
      exact ⟨a, g1, s.ky _ _ (fun _ z => nomatch z) g2⟩
    | tr t =>
      obtain ⟨v, bs, g1, g2, g3, g4⟩ := h
      exact ⟨v, bs, g1, TrOk.step s.ky t v bs (fun a ha => s.same a (g4 a ha).1 (g4 a ha).2.1) g2, g3, fun a ha => ⟨List.mem_append_right _ (g4 a ha).1, (g4 a ha).2.1, by rw [tgo (g4 a ha).1]; exact (g4 a ha).2.2⟩⟩
  · obtain ⟨_, g2, _⟩ := r.sl j _ e
    rw [show (w.growT n as).adr j = w.adr j from rfl, tgo g2]
    exact r.tg j xs e
theorem StpT.ext {n : Nat} {as : List Addr} (s : StpT w T H T1 H1 as) : Ext w H (w.growT n as) H1 := ⟨rfl, rfl, rfl, rfl, s.ky⟩
/-- slot i holds the tree from here on -/
theorem Rp.setT {i : Nat} {v : V} {t : Tr} {as : List Addr} (r : Rp K D w E T σ H) (ok : TrOk K (hidL w.O H) H v t as) (nd : as.Nodup) (tg : ∀ a ∈ as, a ∈ w.O ∧ w.off a ∧ w.tag a = i + 1) : Rp K D w (E.set i (.tr t)) T (σ.set i (some v)) H := by
  refine ⟨r.wd, by rw [List.length_set, List.length_set, r.len], fun j y e => ?_, fun j k xs ys n e1 e2 => ?_, fun j xs e => ?_⟩
  · rcases set_get e with ⟨rfl, rfl, hi⟩ | ⟨n, e⟩
    · exact ⟨v, as, by rw [List.getElem?_set_self (by rw [r.len]; exact hi)], ok, nd, tg⟩
    · rw [List.getElem?_set_ne (fun z => n z.symm)]
      exact r.sl j y e
  · rcases set_get e1 with ⟨_, z, _⟩ | ⟨_, e1⟩
    · cases z
    · rcases set_get e2 with ⟨_, z, _⟩ | ⟨_, e2⟩
      · cases z
      · exact r.inj j k xs ys n e1 e2
  · rcases set_get e with ⟨_, z, _⟩ | ⟨_, e⟩
    · cases z
    · exact r.tg j xs e
/-- one of the lists of slot i's tree is written -/
theorem Rp.updT {i : Nat} {a : Addr} {vs : List V} {v : V} {t0 t1 : Tr} {as : List Addr} (r : Rp K D w E T σ H) (e : E[i]? = some (.tr t0)) (ha : a ∈ w.O ∧ w.off a ∧ w.tag a = i + 1) (ev : σ[i]? = some (some v))
    (ok : TrOk K (hidL w.O H) (L2.upd H a (.lst vs)) v t1 as) (nd : as.Nodup) (tg : ∀ b ∈ as, b ∈ w.O ∧ w.off b ∧ w.tag b = i + 1) : Rp K D w (E.set i (.tr t1)) T σ (L2.upd H a (.lst vs)) ∧ Ext w H w (L2.upd H a (.lst vs)) := by
  have hh : hidL w.O (L2.upd H a (.lst vs)) = hidL w.O H := hidL_upd ha.1
  refine ⟨⟨⟨by rw [hh]; exact r.wd.ky, fun P hP => by rw [hh]; exact r.wd.tab P hP, fun b hb => ?_, fun h => ⟨(r.wd.pur h).1.of (upd_ne (ha.2.1 h).1.symm) (upd_ne (ha.2.1 h).2.symm), (r.wd.pur h).2⟩, r.wd.exl⟩, by rw [List.length_set, r.len], fun j y ej => ?_, fun j k xs ys n g1 g2 => ?_, fun j xs g => ?_⟩, ⟨rfl, rfl, rfl, rfl, by rw [hh]; exact Ky.refl⟩⟩
  · by_cases z : b = a
    · rw [z]
      exact ⟨vs, upd_same⟩
    · rw [upd_ne z]
      exact r.wd.lst b hb
  · rcases set_get ej with ⟨rfl, rfl, _⟩ | ⟨n, ej⟩
    · exact ⟨v, as, ev, by rw [hh]; exact ok, nd, tg⟩
    · have h := r.sl j y ej
      cases y with
      | no => trivial
      | d x =>
        obtain ⟨u, g1, g2⟩ := h
        exact ⟨u, g1, by rw [hh]; exact g2⟩
      | own zs =>
        obtain ⟨g1, g2, g3, us', g4, g5⟩ := h
        exact ⟨g1, g2, g3, us', by rw [upd_ne fun z => absurd (r.tg j zs ej) (by rw [z, ha.2.2]; omega)]; exact g4, by rw [hh]; exact g5⟩
      | pur => exact h
      | exc C =>
        obtain ⟨b, g1, g2⟩ := h
        exact ⟨b, g1, by rw [hh]; exact g2⟩
      | tr t =>
        obtain ⟨u, bs, g1, g2, g3, g4⟩ := h
        exact ⟨u, bs, g1, by rw [hh]; exact TrOk.step Ky.refl t u bs (fun b hb => upd_ne fun z => absurd (g4 b hb).2.2 (by rw [z, ha.2.2]; omega)) g2, g3, g4⟩
  · rcases set_get g1 with ⟨_, z, _⟩ | ⟨_, g1⟩
    · cases z
    · rcases set_get g2 with ⟨_, z, _⟩ | ⟨_, g2⟩
      · cases z
      · exact r.inj j k xs ys n g1 g2
  · rcases set_get g with ⟨_, z, _⟩ | ⟨_, g⟩
    · cases z
    · exact r.tg j xs g
end
/-! judgements -/
abbrev DTr := Env' → Nat → (Tr → Nat → Prop) → Prop
abbrev DTs := Env' → Nat → (List Tr → Nat → Prop) → Prop
def tTr (K : PySem.W.Frag) (D : DC) (f : DTr) : TE := fun σ H Q => ∃ w E T Qh, Rp K D w E T σ H ∧ f E T Qh ∧ ∀ t T' v as H', StpT w T H T' H' as → TrOk K (hidL (as ++ w.O) H') H' v t as → Qh t T' → Q v H'
def tTs (K : PySem.W.Frag) (D : DC) (f : DTs) : TA := fun σ H Q => ∃ w E T Qh, Rp K D w E T σ H ∧ f E T Qh ∧ ∀ ts T' vs as H', StpT w T H T' H' as → TrAll K (hidL (as ++ w.O) H') H' vs ts as → Qh ts T' → Q vs H'
def PTr (X : Cx) (D : DC) (e : Expr) (f : DTr) : Prop := PE X e (tTr X.K D f)
def PTrs (X : Cx) (D : DC) (es : List Expr) (f : DTs) : Prop := PA X es (tTs X.K D f)
section
variable {X : Cx} {D : DC} {e : Expr} {es : List Expr} {pos : Pos}
def trD (f : DE) : DTr := fun E T Q => f E T fun x T1 => Q (.d x) T1
theorem ptr_d {f : DE} (h : PD X D e f) : PTr X D e (trD f) := PE.imp h fun σ H Q ⟨w, E, T, Qh, R, hf, q⟩ => ⟨w, E, T, _, R, hf, fun x T1 v H1 s d hx => q _ T1 v [] H1 s.t (.d d) hx⟩
def trO (f : DOE) : DTr := fun E T Q => f E T fun xs T1 => Q (.l (xs.map .d)) T1
theorem ptr_o {f : DOE} (h : PDo X D e f) : PTr X D e (trO f) := PE.imp h fun σ H Q ⟨w, E, T, Qh, R, hf, q⟩ => ⟨w, E, T, _, R, hf, fun xs T1 l vs H1 s d hx => q _ T1 _ [l] H1 s.t (.l s.at_ (trall_d d)) hx⟩
def tsNil : DTs := fun _ T Q => Q [] T
def tsCons (f : DTr) (g : DTs) : DTs := fun E T Q => f E T fun t T1 => g E T1 fun ts T2 => Q (t :: ts) T2
theorem pts_nilT : PTrs X D [] tsNil := PA.imp pa_nil fun σ H Q ⟨w, E, T, Qh, R, hf, q⟩ => q [] T [] [] H R.wd.refl.t .nil hf
theorem pts_consT {f : DTr} {g : DTs} (h : PTr X D e f) (hg : PTrs X D es g) (hs : starEach (e :: es) X.env = (false, eval e X.env) :: starEach es X.env := by rfl) : PTrs X D (e :: es) (tsCons f g) := PA.imp (pa_cons h hg hs) fun σ H Q ⟨w, E, T, Qh, R, hf, q⟩ =>
  ⟨w, E, T, _, R, hf, fun t T1 v as H1 s1 d1 h1 => ⟨w.growT 0 as, E, T1, _, R.growT s1, h1, fun ts T2 vs bs H2 s2 d2 h2 => by
    have dj : ∀ a ∈ as, a ∉ bs := fun a ha z => (s2.new a z).1 (List.mem_append_left _ ha)
    have sm : ∀ a ∈ as, H2 a = H1 a := fun a ha => s2.same a (List.mem_append_left _ ha) (s1.new a ha).2.1
    have oe : ∀ a, a ∈ bs ++ (as ++ w.O) ↔ a ∈ (as ++ bs) ++ w.O := fun a => by simp only [List.mem_append]; exact ⟨fun h => h.elim (fun h => .inl (.inr h)) fun h => h.elim (fun h => .inl (.inl h)) .inr, fun h => h.elim (fun h => h.elim (fun h => .inr (.inl h)) .inl) fun h => .inr (.inr h)⟩
    have heq : ∀ {G : Hp}, hidL (bs ++ (as ++ w.O)) G = hidL ((as ++ bs) ++ w.O) G := fun {G} => by
      funext a
      unfold hidL
      by_cases z : a ∈ bs ++ (as ++ w.O)
      · rw [if_pos z, if_pos ((oe a).mp z)]
      · rw [if_neg z, if_neg fun y => z ((oe a).mpr y)]
    have k2 : Ky (hidL (as ++ w.O) H1) (hidL ((as ++ bs) ++ w.O) H2) := by
      rw [← heq]
      exact s2.ky
    refine q (t :: ts) T2 (v :: vs) (as ++ bs) H2 ⟨List.nodup_append.mpr ⟨s1.nd, s2.nd, fun a ha b hb z => dj a ha (z ▸ hb)⟩, fun a ha => ?_, s1.ky.trans k2, fun a ha ho => (s2.same a (List.mem_append_right _ ha) ho).trans (s1.same a ha ho), s2.pur⟩ (.cons (TrOk.step k2 t v as sm d1) (by rw [← heq]; exact d2)) h2
    rcases List.mem_append.mp ha with ha | ha
    · obtain ⟨g1, g2, xs, g3⟩ := s1.new a ha
      exact ⟨g1, g2, xs, by rw [sm a ha]; exact g3⟩
    · obtain ⟨g1, g2, g3⟩ := s2.new a ha
      exact ⟨fun z => g1 (List.mem_append_right _ z), g2, g3⟩⟩⟩
theorem hid_cons_new {O : List Addr} {H : Hp} {p : Addr} {o : HO} (n : p ∉ O) (e : H p = none) : hidL (p :: O) (upd H p o) = hidL O H := hidL_own n e
def trL (g : DTs) : DTr := fun E T Q => g E T fun ts T1 => ts.length ≤ 1000000 ∧ Q (.l ts) T1
theorem ptr_lst {g : DTs} (h : PTrs X D es g) : PTr X D (.List es pos) (trL g) := PE.imp (pe_lst h) fun σ H Q ⟨w, E, T, Qh, R, hf, q⟩ =>
  ⟨w, E, T, _, R, hf, fun ts T1 vs as H1 s1 d1 h1 => ⟨by rw [d1.len]; exact Nat.le_trans h1.1 lim_line, fun p n => by
    have pn : p ∉ as ++ w.O := fun z => by
      rcases List.mem_append.mp z with z | z
      · obtain ⟨_, _, xs, g⟩ := s1.new p z
        rw [n] at g
        cases g
      · exact (R.step s1.stp).wd.new n z
    have hh : hidL ((p :: as) ++ w.O) (upd H1 p (.lst vs)) = hidL (as ++ w.O) H1 := hidL_own pn n
    have po : w.off p := fun h => ⟨fun z => pn (List.mem_append_right _ (z ▸ (R.wd.pur h).2.1)), fun z => pn (List.mem_append_right _ (z ▸ (R.wd.pur h).2.2))⟩
    refine q _ T1 _ (p :: as) _ ⟨List.nodup_cons.mpr ⟨fun z => pn (List.mem_append_left _ z), s1.nd⟩, fun a ha => ?_, by rw [hh]; exact s1.ky, fun a ha ho => ?_, fun h => (s1.pur h).same (same_upd n)⟩ (.l upd_same (by rw [hh]; exact TrAll.step Ky.refl ts vs as (fun a ha => upd_ne fun z : a = p => pn (List.mem_append_left _ (by rw [← z]; exact ha))) d1)) h1.2
    · rcases List.mem_cons.mp ha with rfl | ha
      · exact ⟨fun z => pn (List.mem_append_right _ z), po, vs, upd_same⟩
      · obtain ⟨g1, g2, xs, g3⟩ := s1.new a ha
        exact ⟨g1, g2, xs, by rw [upd_ne fun z : a = p => pn (List.mem_append_left _ (by rw [← z]; exact ha))]; exact g3⟩
    · rw [upd_ne fun z : a = p => pn (List.mem_append_right _ (by rw [← z]; exact ha))]
      exact s1.same a ha ho⟩⟩
def trT (g : DTs) : DTr := fun E T Q => g E T fun ts T1 => ts.length ≤ 1000000 ∧ Q (.t ts) T1
theorem ptr_tup {g : DTs} {k} (h : PTrs X D es g) : PTr X D (.Tuple es k pos) (trT g) := PE.imp (pe_tupF h) fun σ H Q ⟨w, E, T, Qh, R, hf, q⟩ =>
  ⟨w, E, T, _, R, hf, fun ts T1 vs as H1 s1 d1 h1 => ⟨by rw [d1.len]; exact Nat.le_trans h1.1 lim_line, fun p o n dn => by
    have pn : p ∉ as ++ w.O := fun z => by
      rcases List.mem_append.mp z with z | z
      · obtain ⟨_, _, xs, g⟩ := s1.new p z
        rw [n] at g
        cases g
      · exact (R.step s1.stp).wd.new n z
    have sm : Same H1 (upd H1 p (.frz o (.tup vs))) := same_upd n
    have hs : Same (hidL (as ++ w.O) H1) (hidL (as ++ w.O) (upd H1 p (.frz o (.tup vs)))) := hidL_same sm
    refine q _ T1 _ as _ ⟨s1.nd, fun a ha => ?_, s1.ky.trans (Ky.of hs), fun a ha ho => ?_, fun h => (s1.pur h).same sm⟩ (.t ?_ (TrAll.step (Ky.of hs) ts vs as (fun a ha => upd_ne fun z : a = p => pn (List.mem_append_left _ (by rw [← z]; exact ha))) d1)) h1.2
    · obtain ⟨g1, g2, xs, g3⟩ := s1.new a ha
      exact ⟨g1, g2, xs, sm _ _ g3⟩
    · rw [upd_ne fun z : a = p => pn (List.mem_append_right _ (by rw [← z]; exact ha))]
      exact s1.same a ha ho
    · rw [hidL_new pn]
      exact tz_new dn⟩⟩
/-- x = a tree -/
def dSetT (i : Nat) (f : DTr) : DS := fun E T D => f E T fun t T' => D.nx (E.set i (.tr t)) T'
theorem psd_setT {i : Nat} {x : Str} {pos' : Pos} {f : DTr} (hN : X.N.Nodup) (hi : X.N[i]? = some x) (hx : Loc X.env.scope x) (h : PTr X D e f) (hs : swapsWith e (some (.Name x pos')) pos.line X.env = pure false := by rfl) (hf : X.fn x = true ∨ X.env.scope.names.lookup x = some .local := by first | exact .inl rfl | exact .inr rfl | assumption) :
    PSd X D (.Assign [.Name x pos'] e pos) (dSetT i f) := PS.imp (ps_set hN hi hx h hs hf) fun Dn σ H ⟨w, E, T, Dh, R, hg, l⟩ => ⟨w, E, T, _, R, hg, fun t T' v as H' s d hx => l.nx _ _ T' _ H' (s.ext (n := i + 1)) ((R.growT (n := i + 1) s).setT d s.nd fun a ha => ⟨List.mem_append_left _ ha, (s.new a ha).2.1, if_pos ha⟩) hx⟩
/-- x.append(a tree), x a tree -/
def dAppT (i : Nat) (f : DTr) : DS := fun E T D => match E[i]? with
  | some (.tr (.l ts)) => f E T fun t T' => ts.length < 1000000 ∧ D.nx (E.set i (.tr (.l (ts ++ [t])))) T'
  | _ => False
theorem psd_appT {i : Nat} {x : Str} {p1 ap cp : Pos} {f : DTr} (hb : PE X (.Call (.Attribute (.Name x p1) "append" ap) [e] [] cp) (tBM X.K "list" rAppend (tVar i) (tCons (tTr X.K D f) tNil)))
    (hs : swapsWith (.Call (.Attribute (.Name x p1) "append" ap) [e] [] cp) none pos.line X.env = pure false := by rfl) : PSd X D (.Expr (.Call (.Attribute (.Name x p1) "append" ap) [e] [] cp) pos) (dAppT i f) := PS.imp (ps_expr hb hs) fun Dn σ H ⟨w, E, T, Dh, R, hg, l⟩ => by
  unfold dAppT at hg
  split at hg
  · rename_i ts e
    obtain ⟨v, as, e1, e2, e3, e4⟩ := R.sl i _ e
    cases e2 with
    | l hr hall =>
      rename_i a us as'
      refine ⟨_, e1, .inl ⟨rfl, _, SqL.of hr⟩, w, E, T, _, R, hg, fun t T' u bs H' s d hx => ?_⟩
      have ha := e4 a List.mem_cons_self
      have sm : ∀ b ∈ a :: as', H' b = H b := fun b hb => s.same b (e4 b hb).1 (e4 b hb).2.1
      have R2 := R.growT (n := i + 1) s
      have ga : a ∈ (w.growT (i + 1) bs).O ∧ (w.growT (i + 1) bs).off a ∧ (w.growT (i + 1) bs).tag a = i + 1 := ⟨List.mem_append_right _ ha.1, ha.2.1, by
        show (if a ∈ bs then i + 1 else w.tag a) = i + 1
        split
        · rfl
        · exact ha.2.2⟩
      have nab : a ∉ bs := fun z => (s.new a z).1 ha.1
      have naa : a ∉ as' := (List.nodup_cons.mp e3).1
      have h' : H' a = some (.lst us) := by rw [sm a List.mem_cons_self]; exact hr
      have ok : TrOk X.K (hidL (w.growT (i + 1) bs).O H') (upd H' a (.lst (us ++ [u]))) (.ref a) (.l (ts ++ [t])) (a :: (as' ++ (bs ++ []))) := by
        refine .l upd_same (TrAll.app (TrAll.step s.ky ts us as' (fun b hb => ?_) hall) (.cons (TrOk.step Ky.refl t u bs (fun b hb => upd_ne fun z : b = a => nab (by rw [← z]; exact hb)) d) .nil))
        rw [upd_ne fun z : b = a => naa (by rw [← z]; exact hb)]
        exact sm b (List.mem_cons_of_mem _ hb)
      have nd : (a :: (as' ++ (bs ++ []))).Nodup := by
        rw [List.append_nil]
        refine List.nodup_cons.mpr ⟨fun z => (List.mem_append.mp z).elim naa nab, List.nodup_append.mpr ⟨(List.nodup_cons.mp e3).2, s.nd, fun b hb c hc z => ?_⟩⟩
        exact (s.new c hc).1 (z ▸ (e4 b (List.mem_cons_of_mem _ hb)).1)
      obtain ⟨R3, x3⟩ := R2.updT e ga e1 ok nd fun b hb => by
        rw [List.append_nil] at hb
        rcases List.mem_cons.mp hb with rfl | hb
        · exact ga
        · rcases List.mem_append.mp hb with hb | hb
          · have g := e4 b (List.mem_cons_of_mem _ hb)
            refine ⟨List.mem_append_right _ g.1, g.2.1, ?_⟩
            show (if b ∈ bs then i + 1 else w.tag b) = i + 1
            split
            · rfl
            · exact g.2.2
          · exact ⟨List.mem_append_left _ hb, (s.new b hb).2.1, if_pos hb⟩
      exact ⟨_, _, _, rfl, rfl, h', lim_lt (by rw [hall.len]; exact hx.1), l.nx _ _ T' _ _ ((s.ext (n := i + 1)).trans x3) R3 hx.2⟩
  · exact hg.elim
/-- repr(x), x a tree -/
def dReprT (i : Nat) : DE := fun E T Q => match E[i]? with
  | some (.tr t) => optQ (reprD t.dat) T Q
  | _ => False
theorem pd_reprT {k i : Nat} {x : Str} {p p2 : Pos} (hgd : X.A.guards = some []) (hr : Room k X.A) (hg : Gl X "repr") (hm : X.mg "repr" = none) (hv : bootBuiltins "repr" = some (.builtin "repr")) (h : PE X (.Name x p2) (tVar i))
    (he : starEach [.Name x p2] X.env = (false, eval (.Name x p2) X.env) :: starEach [] X.env := by rfl) : PD X D (.Call (.Name "repr" p) [.Name x p2] [] pos) (dReprT i) := PE.imp (pe_callB (call_reprV hgd) hg hm hv (pa_cons h pa_nil he) (by decide) (by decide) he rfl) fun σ H Q ⟨w, E, T, Qh, R, hf, q⟩ => by
  unfold dReprT at hf
  split at hf
  · rename_i t e
    obtain ⟨v, as, e1, e2, e3, e4⟩ := R.sl i _ e
    obtain ⟨z, ez, hz⟩ := optQ_some hf
    unfold reprD at ez
    split at ez
    · rename_i hh
      cases ez
      have df := TrOk.df (Hw := H) (Ky.of hidL_le) t v as (fun _ _ => rfl) e2
      exact ⟨v, e1, v, t.dat, rfl, Df.dp _ _ df, hh.1, hh.2.1, by have := hr.un; omega, Nat.le_trans hh.2.2.2.1 lim_line, q _ T _ H R.wd.refl (.str _ hh.2.2.2.2) hz⟩
    · cases ez
  · exact hf.elim
end
end Dv
set_option Elab.async false
set_option linter.all false
set_option maxRecDepth 100000
set_option maxHeartbeats 4000000
namespace Dv
open PySem PySem.Spec PyProof.Rows L2
/-! ### for x in told: x.append(..), x.reverse() .. : told a tree of lists of data -/
def ownL (ds : List PyData) : Tr := .l (ds.map .d)
theorem upd_upd {H : Hp} {a : Addr} {o o' : HO} : upd (upd H a o) a o' = upd H a o' := by
  funext b
  by_cases z : b = a
  · rw [z, upd_same, upd_same]
  · rw [upd_ne z, upd_ne z, upd_ne z]
def tAl (K : PySem.W.Frag) (j : Nat) (ok : List PyData → Prop) (g : List PyData → List PyData) : TS := fun Dn σ H => ∃ (b : Addr) (us : List V) (ds : List PyData) (Hv : Hp), σ[j]? = some (some (.ref b)) ∧ H b = some (.lst us) ∧ DfAll K Hv us ds ∧ ok ds ∧ ∀ us', DfAll K Hv us' (g ds) → Dn.nx σ (upd H b (.lst us'))
section
variable {X : Cx} {st : Stmt} {rest : List Stmt} {j : Nat} {ok ok' : List PyData → Prop} {g g' : List PyData → List PyData} {x : Str} {p1 ap cp pos : Pos} {e : Expr}
theorem pal_app {v : V} {d : PyData} (hv : ∀ Hv, Df X.K Hv v d) (hb : PE X (.Call (.Attribute (.Name x p1) "append" ap) [e] [] cp) (tBM X.K "list" rAppend (tVar j) (tCons (tC v) tNil)))
    (hs : swapsWith (.Call (.Attribute (.Name x p1) "append" ap) [e] [] cp) none pos.line X.env = pure false := by rfl) : PS X (.Expr (.Call (.Attribute (.Name x p1) "append" ap) [e] [] cp) pos) (tAl X.K j (fun ds => ds.length < 1000000) fun ds => ds ++ [d]) := PS.imp (ps_expr hb hs) fun Dn σ H ⟨b, us, ds, Hv, e1, e2, e3, e4, q⟩ =>
  ⟨_, e1, .inl ⟨rfl, _, SqL.of e2⟩, _, _, v, rfl, rfl, e2, lim_lt (by rw [e3.len]; exact e4), q _ (e3.append (.cons (hv Hv) .nil))⟩
theorem pal_rev (hb : PE X (.Call (.Attribute (.Name x p1) "reverse" ap) [] [] cp) (tBM0 X.K "list" rReverse (tVar j)))
    (hs : swapsWith (.Call (.Attribute (.Name x p1) "reverse" ap) [] [] cp) none pos.line X.env = pure false := by rfl) : PS X (.Expr (.Call (.Attribute (.Name x p1) "reverse" ap) [] [] cp) pos) (tAl X.K j (fun _ => True) List.reverse) := PS.imp (ps_expr hb hs) fun Dn σ H ⟨b, us, ds, Hv, e1, e2, e3, e4, q⟩ =>
  ⟨_, e1, .inl ⟨rfl, _, SqL.of e2⟩, _, _, rfl, rfl, e2, q _ e3.rev⟩
theorem pal_clear (hb : PE X (.Call (.Attribute (.Name x p1) "clear" ap) [] [] cp) (tBM0 X.K "list" rClear (tVar j)))
    (hs : swapsWith (.Call (.Attribute (.Name x p1) "clear" ap) [] [] cp) none pos.line X.env = pure false := by rfl) : PS X (.Expr (.Call (.Attribute (.Name x p1) "clear" ap) [] [] cp) pos) (tAl X.K j (fun _ => True) fun _ => []) := PS.imp (ps_expr hb hs) fun Dn σ H ⟨b, us, ds, Hv, e1, e2, e3, e4, q⟩ =>
  ⟨_, e1, .inl ⟨rfl, _, SqL.of e2⟩, _, _, rfl, rfl, e2, q _ .nil⟩
theorem pals_one (h : PS X st (tAl X.K j ok g)) : PSs X [st] (tAl X.K j ok g) := pss_one h
theorem pals_cons (h : PS X st (tAl X.K j ok g)) (h2 : PSs X rest (tAl X.K j ok' g')) : PSs X (st :: rest) (tAl X.K j (fun ds => ok ds ∧ ok' (g ds)) fun ds => g' (g ds)) := PSs.imp (pss_cons h h2) fun Dn σ H ⟨b, us, ds, Hv, e1, e2, e3, e4, q⟩ =>
  ⟨b, us, ds, Hv, e1, e2, e3, e4.1, fun us' d' => ⟨b, us', g ds, Hv, e1, upd_same, d', e4.2, fun us2 d2 => by rw [upd_upd]; exact q us2 d2⟩⟩
/-- lists of data at as -/
def Flt (K : PySem.W.Frag) (Hv H : Hp) (as : List Addr) (dss : List (List PyData)) : Prop := as.length = dss.length ∧ ∀ (m : Nat) (b : Addr) (ds : List PyData), as[m]? = some b → dss[m]? = some ds → ∃ us, H b = some (.lst us) ∧ DfAll K Hv us ds
theorem dfAll_of_tr {K : PySem.W.Frag} {Hv H : Hp} : ∀ {ds : List PyData} {vs : List V} {as : List Addr}, TrAll K Hv H vs (ds.map .d) as → DfAll K Hv vs ds ∧ as = []
  | [], _, _, h => by cases h; exact ⟨.nil, rfl⟩
  | d :: r, _, _, h => by
    cases h with
    | cons a b =>
      obtain ⟨h1, h2⟩ := dfAll_of_tr b
      cases a with
      | d a => exact ⟨.cons a h1, by rw [h2]; rfl⟩
theorem flt_of {K : PySem.W.Frag} {Hv H : Hp} : ∀ {dss : List (List PyData)} {vs : List V} {as : List Addr}, TrAll K Hv H vs (dss.map ownL) as → vs = as.map V.ref ∧ Flt K Hv H as dss
  | [], _, _, h => by cases h; exact ⟨rfl, rfl, fun m b ds h => by simp at h⟩
  | ds :: r, _, _, h => by
    cases h with
    | cons a b =>
      obtain ⟨h1, h2, h3⟩ := flt_of b
      cases a with
      | l e a =>
        obtain ⟨h4, h5⟩ := dfAll_of_tr a
        subst h5
        refine ⟨by rw [h1]; rfl, by simp only [List.cons_append, List.nil_append, List.length_cons, h2], fun m b ds' hb hd => ?_⟩
        cases m with
        | zero =>
          simp at hb hd
          subst hb hd
          exact ⟨_, e, h4⟩
        | succ m => exact h3 m b ds' (by simpa using hb) (by simpa using hd)
theorem Flt.tr {K : PySem.W.Frag} {Hv H : Hp} : ∀ {dss : List (List PyData)} {as : List Addr}, Flt K Hv H as dss → TrAll K Hv H (as.map V.ref) (dss.map ownL) as
  | [], [], _ => .nil
  | [], _ :: _, h => by have := h.1; simp at this
  | _ :: _, [], h => by have := h.1; simp at this
  | ds :: r, a :: as, h => by
    obtain ⟨us, e1, e2⟩ := h.2 0 a ds rfl rfl
    exact TrAll.cons (as := [a]) (.l e1 (trall_d e2)) (Flt.tr ⟨by have := h.1; simpa using this, fun m b ds' hb hd => h.2 (m + 1) b ds' (by simpa using hb) (by simpa using hd)⟩)
theorem Flt.write {K : PySem.W.Frag} {Hv H : Hp} {as : List Addr} {dss : List (List PyData)} {m : Nat} {b : Addr} {us : List V} {es : List PyData} (h : Flt K Hv H as dss) (nd : as.Nodup) (hb : as[m]? = some b) (d : DfAll K Hv us es) : Flt K Hv (upd H b (.lst us)) as (dss.set m es) := by
  refine ⟨by rw [List.length_set]; exact h.1, fun n c ds hc hd => ?_⟩
  by_cases z : n = m
  · subst z
    rw [hb] at hc
    cases hc
    have hn : n < dss.length := by
      have := (List.getElem?_eq_some_iff.mp hb).1
      have := h.1
      omega
    rw [List.getElem?_set_self hn] at hd
    cases hd
    exact ⟨us, upd_same, d⟩
  · rw [List.getElem?_set_ne (fun y => z y.symm)] at hd
    obtain ⟨u2, e1, e2⟩ := h.2 n c ds hc hd
    refine ⟨u2, ?_, e2⟩
    rw [upd_ne fun y : c = b => z ?_]
    · exact e1
    · subst y
      obtain ⟨h1, e1⟩ := List.getElem?_eq_some_iff.mp hc
      obtain ⟨h2, e2⟩ := List.getElem?_eq_some_iff.mp hb
      exact (List.getElem_inj nd).mp (e1.trans e2.symm)
end
theorem Flt.ky {K : PySem.W.Frag} {Hv Hv' H : Hp} {as : List Addr} {dss : List (List PyData)} (h : Flt K Hv H as dss) (k : Ky Hv Hv') : Flt K Hv' H as dss := ⟨h.1, fun m b ds e1 e2 => by
  obtain ⟨us, e3, e4⟩ := h.2 m b ds e1 e2
  exact ⟨us, e3, e4.ky k⟩⟩
def mix {α : Type} (g : α → α) (xs : List α) (m : Nat) : List α := (xs.take m).map g ++ xs.drop m
theorem mix_lt {α : Type} {g : α → α} {xs : List α} {m : Nat} (hm : m < xs.length) : ((xs.take m).map g).length = m := by
  rw [List.length_map, List.length_take]
  omega
theorem mix_get {α : Type} {g : α → α} {xs : List α} {m : Nat} {x : α} (h : xs[m]? = some x) : (mix g xs m)[m]? = some x := by
  obtain ⟨hm, e⟩ := List.getElem?_eq_some_iff.mp h
  have lt := mix_lt (g := g) hm
  unfold mix
  rw [List.getElem?_append_right (by omega), lt, Nat.sub_self, drop_at h]
  rfl
theorem mix_set {α : Type} {g : α → α} {xs : List α} {m : Nat} {x : α} (h : xs[m]? = some x) : (mix g xs m).set m (g x) = mix g xs (m + 1) := by
  obtain ⟨hm, e⟩ := List.getElem?_eq_some_iff.mp h
  have lt := mix_lt (g := g) hm
  have tk : xs.take (m + 1) = xs.take m ++ [x] := by rw [List.take_add_one, h]; rfl
  unfold mix
  rw [List.set_append_right m (g x) (Nat.le_of_eq lt), lt, Nat.sub_self, drop_at h, tk, List.map_append, List.append_assoc]
  rfl
theorem mix_zero {α : Type} {g : α → α} {xs : List α} : mix g xs 0 = xs := rfl
theorem mix_end {α : Type} {g : α → α} {xs : List α} {n : Nat} (h : n = xs.length) : mix g xs n = xs.map g := by
  subst h
  unfold mix
  rw [List.take_of_length_le (Nat.le_refl _), List.drop_of_length_le (Nat.le_refl _), List.append_nil]
theorem set_same {α : Type} {xs : List α} {i : Nat} {x : α} (h : xs[i]? = some x) : xs.set i x = xs := by
  obtain ⟨hi, e⟩ := List.getElem?_eq_some_iff.mp h
  subst e
  exact List.set_getElem_self hi
section
variable {X : Cx} {D : DC} {i j : Nat} {ok : List PyData → Prop} {g : List PyData → List PyData} {x y : Str} {p1 p2 pos : Pos} {body : List Stmt}
def dForT (i j : Nat) (ok : List PyData → Prop) (g : List PyData → List PyData) : DS := fun E T D => match E[i]? with
  | some (.tr (.l ts)) => ∃ dss : List (List PyData), ts = dss.map ownL ∧ (∀ ds ∈ dss, ok ds) ∧ j < E.length ∧ D.nx ((E.set i (.tr (.l ((dss.map g).map ownL)))).set j .no) T
  | _ => False
theorem psd_forT (hp : PassesOwn (model X.prog X.w) X.A X.env X.xe) (hc : X.calm = true) (hij : i ≠ j) (hN : X.N.Nodup) (hj : X.N[j]? = some x) (hl : Loc X.env.scope x) (hi : PE X (.Name y p1) (tVar i)) (hb : PSs X body (tAl X.K j ok g))
    (hf : X.fn x = true ∨ X.env.scope.names.lookup x = some .local := by first | exact .inl rfl | exact .inr rfl | assumption) (hs : ∀ x, foldedSetIterable (.Name y p1) X.env x = pure x := by intro _; rfl) : PSd X D (.For (.Name x p2) (.Name y p1) body [] pos) (dForT i j ok g) :=
  PS.imp (ps_for hp hc (pi_list hi) (pg_name hN hj hl hf) hb hs) fun Dn σ H ⟨w, E, T, Dh, R, hgg, l⟩ => by
    unfold dForT at hgg
    split at hgg
    · rename_i ts e
      obtain ⟨dss, rfl, hok, hjE, hn⟩ := hgg
      obtain ⟨v, as, e1, e2, e3, e4⟩ := R.sl i _ e
      cases e2 with
      | l hr hall =>
        rename_i a us as'
        obtain ⟨rfl, fl⟩ := flt_of hall
        have hiE : i < E.length := (List.getElem?_eq_some_iff.mp e).1
        have nd' := (List.nodup_cons.mp e3).2
        have naa := (List.nodup_cons.mp e3).1
        have hj' : j < σ.length := by rw [R.len]; exact hjE
        have R0 : Rp X.K D w (E.set i (.tr (.l ((mix g dss 0).map ownL)))) T σ H := by
          rw [mix_zero, set_same e]
          exact R
        refine ⟨_, e1, a, rfl, ⟨_, SqL.of hr⟩, ?_⟩
        refine for_it (walk_list (xs := as'.map V.ref)) (fun m σ' H' => ∃ o, σ' = σ.set j o ∧ Rp X.K D w (E.set i (.tr (.l ((mix g dss m).map ownL)))) T σ H' ∧ Ext w H w H' ∧ H' a = some (.lst (as'.map V.ref)) ∧ Flt X.K (hidL w.O H) H' as' (mix g dss m)) ⟨σ[j], (List.set_getElem_self hj').symm, R0, .refl, hr, fl⟩ (fun m σ' H' _ h => ?_) (fun m v σ' Ha Hb hm h y => ?_) (fun σ' H' h => ?_)
        · obtain ⟨o, _, _, _, h4, _⟩ := h
          exact SqL.of h4
        · obtain ⟨o, rfl, R1, x1, h4, f1⟩ := h
          obtain ⟨yh, hv⟩ := y
          subst yh
          rw [List.getElem?_map] at hv
          obtain ⟨b, hb, rfl⟩ := Option.map_eq_some_iff.mp hv
          have hmd : m < dss.length := by
            have := fl.1
            rw [List.length_map] at hm
            omega
          have hds : dss[m]? = some dss[m] := List.getElem?_eq_getElem hmd
          obtain ⟨us, e5, e6⟩ := f1.2 m b _ hb (mix_get hds)
          refine ⟨b, us, dss[m], hidL w.O H, by rw [List.set_set, List.getElem?_set_self hj'], e5, e6, hok _ (List.getElem_mem hmd), fun us' d' => ?_⟩
          have hba : b ∈ as' := List.mem_of_getElem? hb
          have f2 := f1.write nd' hb d'
          rw [mix_set hds] at f2
          have h4' : (upd Hb b (.lst us')) a = some (.lst (as'.map V.ref)) := by
            rw [upd_ne fun z : a = b => naa (by rw [z]; exact hba)]
            exact h4
          obtain ⟨R2, x2⟩ := R1.updT (List.getElem?_set_self hiE) (e4 b (List.mem_cons_of_mem _ hba)) e1 (.l h4' (f2.ky x1.ky).tr) e3 e4
          rw [List.set_set] at R2
          exact ⟨some (.ref b), List.set_set _, R2, x1.trans x2, h4', f2⟩
        · obtain ⟨o, rfl, R1, x1, h4, f1⟩ := h
          rw [mix_end (by rw [List.length_map]; exact fl.1)] at R1
          exact l.nx w _ T _ H' x1 R1.unset hn
    · exact hgg.elim
end
end Dv
set_option Elab.async false
set_option linter.all false
set_option maxRecDepth 100000
set_option maxHeartbeats 4000000
namespace Dv
open PySem PySem.Spec PyProof.Rows L2
/-! ### trees: one of their lists looked into, written, grown; a tree becomes data -/
section
variable {K : PySem.W.Frag} {D : DC} {w : Wst} {E : Env'} {σ : L2.St} {T T1 T2 : Nat} {H H1 H2 : Hp}
def Wst.dropL (w : Wst) (as : List Addr) : Wst := { w with O := w.O.filter fun a => decide (a ∉ as) }
theorem Rp.relT {i : Nat} {t : Tr} (r : Rp K D w E T σ H) (e : E[i]? = some (.tr t)) : ∃ as, Rp K D (w.dropL as) (E.set i (.d t.dat)) T σ H ∧ Ext w H (w.dropL as) H := by
  obtain ⟨v, as, e1, e2, e3, e4⟩ := r.sl i _ e
  have inO : ∀ {a : Addr}, a ∈ (w.dropL as).O ↔ a ∈ w.O ∧ a ∉ as := fun {a} => by
    show a ∈ w.O.filter _ ↔ _
    rw [List.mem_filter, decide_eq_true_iff]
  have ky : Ky (hidL w.O H) (hidL (w.dropL as).O H) := Ky.of (hidL_sub fun a ha => (inO.mp ha).1)
  have np : w.hp = true → w.p ∉ as ∧ w.c ∉ as := fun h => ⟨fun z => ((e4 _ z).2.1 h).1 rfl, fun z => ((e4 _ z).2.1 h).2 rfl⟩
  refine ⟨as, ⟨⟨r.wd.ky.trans ky, fun P hP => ky.tb P (r.wd.tab P hP), fun a ha => r.wd.lst a (inO.mp ha).1, fun h => ⟨(r.wd.pur h).1, inO.mpr ⟨(r.wd.pur h).2.1, (np h).1⟩, inO.mpr ⟨(r.wd.pur h).2.2, (np h).2⟩⟩, r.wd.exl⟩, by rw [List.length_set, r.len], fun j y ej => ?_, fun j k xs ys n g1 g2 => ?_, fun j zs ej => ?_⟩, ⟨rfl, rfl, rfl, rfl, ky⟩⟩
  · rcases set_get ej with ⟨rfl, rfl, _⟩ | ⟨n, ej⟩
    · exact ⟨v, e1, TrOk.df ky t v as (fun a ha => hidL_at fun z => (inO.mp z).2 ha) e2⟩
    · have h := r.sl j y ej
      cases y with
      | no => trivial
      | d x =>
        obtain ⟨u, g1, g2⟩ := h
        exact ⟨u, g1, g2.ky ky⟩
      | own zs =>
        obtain ⟨g1, g2, g3, us', g4, g5⟩ := h
        refine ⟨g1, inO.mpr ⟨g2, fun z => ?_⟩, g3, us', g4, g5.ky ky⟩
        have h1 : w.tag (w.adr j) = i + 1 := (e4 _ z).2.2
        rw [r.tg j zs ej] at h1
        omega
      | pur => exact h
      | exc C =>
        obtain ⟨a, g1, g2⟩ := h
        exact ⟨a, g1, ky _ _ (fun _ z => nomatch z) g2⟩
      | tr t2 =>
        obtain ⟨u, bs, g1, g2, g3, g4⟩ := h
        refine ⟨u, bs, g1, TrOk.step ky t2 u bs (fun a ha => rfl) g2, g3, fun a ha => ⟨inO.mpr ⟨(g4 a ha).1, fun z => ?_⟩, (g4 a ha).2⟩⟩
        have h1 := (e4 _ z).2.2
        have h2 := (g4 a ha).2.2
        omega
  · rcases set_get g1 with ⟨_, z, _⟩ | ⟨_, g1⟩
    · cases z
    · rcases set_get g2 with ⟨_, z, _⟩ | ⟨_, g2⟩
      · cases z
      · exact r.inj j k xs ys n g1 g2
  · rcases set_get ej with ⟨_, z, _⟩ | ⟨_, ej⟩
    · cases z
    · exact r.tg j zs ej
end
def relTE (i : Nat) (E : Env') : Env' := match E[i]? with
  | some (.tr t) => E.set i (.d t.dat)
  | _ => E
def dRelT (i : Nat) (g : DS) : DS := fun E T D => g (relTE i E) T D
section
variable {X : Cx} {D : DC} {st : Stmt} {rest sts : List Stmt} {g : DS} {e a b : Expr} {f fa fb fv : DE} {pos : Pos}
theorem pssd_relT (i : Nat) (h : PSsd X D sts g) : PSsd X D sts (dRelT i g) := PSs.imp h fun Dn σ H ⟨w, E, T, Dh, R, hg, l⟩ => by
  unfold dRelT relTE at hg
  split at hg
  · rename_i xs e
    obtain ⟨as, R2, x⟩ := R.relT e
    exact ⟨_, _, T, Dh, R2, hg, l.ext x⟩
  · exact ⟨w, E, T, Dh, R, hg, l⟩
theorem ownL_dat (ds : List PyData) : (ownL ds).dat = .list ds := by
  have : ∀ ds : List PyData, Tr.dats (ds.map .d) = ds := fun ds => by
    induction ds with
    | nil => rfl
    | cons d r ih => rw [List.map_cons, Tr.dats, ih]; rfl
  unfold ownL
  rw [Tr.dat, this]
theorem ownLs_dat (dss : List (List PyData)) : (Tr.l (dss.map ownL)).dat = .list (dss.map PyData.list) := by
  have : ∀ dss : List (List PyData), Tr.dats (dss.map ownL) = dss.map PyData.list := fun dss => by
    induction dss with
    | nil => rfl
    | cons d r ih => rw [List.map_cons, Tr.dats, ih, ownL_dat]; rfl
  rw [Tr.dat, this]
/-- told[a], told a tree of lists of data: to be looked into -/
def dTIx (i : Nat) (f : DE) : DE := fun E T Q => match E[i]? with
  | some (.tr (.l ts)) => f E T fun z T' => ∃ (dss : List (List PyData)) (n : Nat) (ds : List PyData), ts = dss.map ownL ∧ z = .int (n : Nat) ∧ dss[n]? = some ds ∧ Q (.list ds) T'
  | _ => False
theorem pk_tix {i : Nat} {x : Str} {p1 : Pos} (h : PE X (.Name x p1) (tVar i)) (hb : PK X D b f) (hs : PlainIx b) : PK X D (.Subscript (.Name x p1) b pos) (dTIx i f) := PE.imp (pe_ix ix_seq h hb hs) fun σ H Q ⟨w, E, T, Qh, R, hf, q⟩ => by
  unfold dTIx at hf
  split at hf
  · rename_i ts e
    obtain ⟨v, as, e1, e2, e3, e4⟩ := R.sl i _ e
    refine ⟨v, e1, w, E, T, _, R, hf, fun z T1 u H1 s1 d1 h1 => ?_⟩
    obtain ⟨dss, n, ds, rfl, rfl, hn, hq⟩ := h1
    cases e2 with
    | l hr hall =>
      rename_i ad us as'
      obtain ⟨rfl, fl⟩ := flt_of hall
      have ha := e4 ad List.mem_cons_self
      have hl : n < as'.length := by
        rw [fl.1]
        exact (List.getElem?_eq_some_iff.mp hn).1
      obtain ⟨us2, g1, g2⟩ := fl.2 n as'[n] ds (List.getElem?_eq_getElem hl) hn
      have hb := e4 as'[n] (List.mem_cons_of_mem _ (List.getElem_mem hl))
      refine .inl ⟨ad, _, _, .ref as'[n], rfl, dk_int d1, SqL.of (by rw [s1.same ad ha.1 ha.2.1]; exact hr), at_nat (by rw [List.getElem?_map, List.getElem?_eq_getElem hl]; rfl), q _ T1 _ H1 s1 (.inr ⟨as'[n], us2, ds, rfl, hb.1, hb.2.1, by rw [s1.same _ hb.1 hb.2.1]; exact g1, g2.ky s1.ky, rfl⟩) hq⟩
  · exact hf.elim
/-- told[a][b] = v -/
def dSetTIx (i : Nat) (fv fa fb : DE) : DS := fun E T D => fv E T fun v T1 => match E[i]? with
  | some (.tr (.l ts)) => fa E T1 fun z T2 => ∃ (dss : List (List PyData)) (m : Nat) (ds : List PyData), ts = dss.map ownL ∧ z = .int (m : Nat) ∧ dss[m]? = some ds ∧ fb E T2 fun y T3 => ∃ n : Nat, y = .int (n : Nat) ∧ n < ds.length ∧ D.nx (E.set i (.tr (.l ((dss.set m (ds.set n v)).map ownL)))) T3
  | _ => False
theorem psd_setTIx {i : Nat} {x : Str} {p1 p2 spos : Pos} (hb : PD X D e fv) (hg : PG X (.Subscript (.Subscript (.Name x p1) a p2) b pos) (gSub (tOp (rIx X.K) (tVar i) (tK X.K D fa)) (tD X.K D fb) rSetL))
    (hs : swapsWithSole [.Subscript (.Subscript (.Name x p1) a p2) b pos] e spos.line X.env = pure false := by rfl) (hw : swappedStores [.Subscript (.Subscript (.Name x p1) a p2) b pos] e X.env = pure none := by rfl) (h1 : (assignEach [.Subscript (.Subscript (.Name x p1) a p2) b pos] X.env).map (·.2) = [assign (.Subscript (.Subscript (.Name x p1) a p2) b pos) X.env] := by rfl) :
    PSd X D (.Assign [.Subscript (.Subscript (.Name x p1) a p2) b pos] e spos) (dSetTIx i fv fa fb) := PS.imp (ps_asg hb hg hs hw h1) fun Dn σ H ⟨w, E, T, Dh, R, hg, l⟩ => ⟨w, E, T, _, R, hg, fun v T1 u H1 s1 d1 h1 => by
  split at h1
  · rename_i ts et
    have R1 := R.step s1
    obtain ⟨v0, as, e1, e2, e3, e4⟩ := R1.sl i _ et
    refine ⟨v0, e1, w, E, T1, _, R1, h1, fun z T2 uz H2 s2 d2 h2 => ?_⟩
    have R2 := R1.step s2
    cases e2 with
    | l hr hall =>
      rename_i ad us as'
      have ha := e4 ad List.mem_cons_self
      obtain ⟨dss, m, ds, rfl, rfl, hm, h3⟩ := h2
      obtain ⟨rfl, fl⟩ := flt_of hall
      have hl : m < as'.length := by
        rw [fl.1]
        exact (List.getElem?_eq_some_iff.mp hm).1
      have hbm : as'[m]? = some as'[m] := List.getElem?_eq_getElem hl
      have hin : as'[m] ∈ as' := List.getElem_mem hl
      obtain ⟨us2, g1, g2⟩ := fl.2 m as'[m] ds hbm hm
      have hb := e4 as'[m] (List.mem_cons_of_mem _ hin)
      refine .inl ⟨ad, _, _, .ref as'[m], rfl, dk_int d2, SqL.of (by rw [s2.same ad ha.1 ha.2.1]; exact hr), at_nat (by rw [List.getElem?_map, hbm]; rfl), w, E, T2, _, R2, h3, fun y T3 uy H3 s3 d3 h4 => ?_⟩
      obtain ⟨n, rfl, hn, hq⟩ := h4
      have R3 := R2.step s3
      have s23 := s2.trans s3
      have g1' : H3 as'[m] = some (.lst us2) := by rw [s23.same _ hb.1 hb.2.1]; exact g1
      have g2' : DfAll X.K (hidL w.O H3) us2 ds := g2.ky s23.ky
      have fl3 : Flt X.K (hidL w.O H3) H3 as' dss := ⟨fl.1, fun k c cs q1 q2 => by
        obtain ⟨u3, p1, p2⟩ := fl.2 k c cs q1 q2
        have hc := e4 c (List.mem_cons_of_mem _ (List.mem_of_getElem? q1))
        exact ⟨u3, by rw [s23.same _ hc.1 hc.2.1]; exact p1, p2.ky s23.ky⟩⟩
      have d1' : Df X.K (hidL w.O H3) u v := d1.ky s23.ky
      have nd := (List.nodup_cons.mp e3).2
      have naa := (List.nodup_cons.mp e3).1
      have f4 := fl3.write nd hbm (g2'.set n d1')
      have hr3 : upd H3 as'[m] (.lst (us2.set n u)) ad = some (.lst (as'.map V.ref)) := by
        rw [upd_ne fun z : ad = as'[m] => naa (by rw [z]; exact hin), s23.same ad ha.1 ha.2.1]
        exact hr
      obtain ⟨R4, x4⟩ := R3.updT et hb e1 (.l hr3 f4.tr) e3 e4
      exact ⟨as'[m], us2, n, n, rfl, df_int d3, g1', Cv.ixN_nat' (by rw [g2'.len]; exact hn), l.nx w _ T3 _ _ ((s1.trans s23).ext.trans x4) R4 hq⟩
  · exact h1.elim⟩
end
end Dv
set_option Elab.async false
set_option linter.all false
set_option maxRecDepth 100000
set_option maxHeartbeats 4000000
namespace Dv
open PySem PySem.Spec PyProof.Rows L2
/-! ### sum(.. for ..) -/
def dSumG (vs : List Nat) (f : DIt) (γ : DG) (te : DE) : DE := fun E T Q => f E T fun xs T1 => ∃ val : Nat → Int, (∀ j x, xs[j]? = some x → γ x (wipeE E vs) fun E' => te E' T1 fun y T2 => y = .int (val j) ∧ T2 = T1) ∧ Q (.int (preSum val xs.length)) T1
section
variable {X : Cx} {D : DC} {tg iter elt : Expr} {κ : Bool} {γ : DG} {f : DIt} {te : DE} {p pos gpos : Pos} {scope : Scope} {own : List (Str × Nat)} {c P : Addr} {k : Nat}
theorem pd_sumG (hr : Room (k + 1) X.A) (hg : Gl X "sum") (hm : X.mg "sum" = none) (hb : bootBuiltins "sum" = some (.builtin "sum")) (TB : GxR.TabB X.base X.mg c P) (hP : P ∈ D.tb) (hcode : X.env.code = .ref c) (S : Gx.GenN X.N X.env.scope scope own) (hN : X.N.Nodup) (hi : PId κ X D tg iter f)
    (ht : ∀ (C : Addr) (code : Value) (s : Shared) (H : Hp) (A' : Around) (fp : List Addr), PGy κ (Gx.gcx X s H A' (Gx.genv X scope C code) fp) D tg (own.map (·.2)) γ)
    (hel : ∀ (C : Addr) (code : Value) (s : Shared) (H : Hp) (A' : Around) (fp : List Addr), Room k A' → PD (Gx.gcx X s H A' (Gx.genv X scope C code) fp) D elt te)
    (hs : ∀ v, genFold iter X.env v = pure v)
    (he : starEach [.GeneratorExp elt [⟨tg, iter, [], 0⟩] scope gpos] X.env = (false, eval (.GeneratorExp elt [⟨tg, iter, [], 0⟩] scope gpos) X.env) :: starEach [] X.env := by rfl) :
    PD X D (.Call (.Name "sum" p) [.GeneratorExp elt [⟨tg, iter, [], 0⟩] scope gpos] [] pos) (dSumG (own.map (·.2)) f γ te) :=
  PE.imp (Gs.pe_sumG (gt := tGy κ X.K D (own.map fun x : Str × Nat => x.2) γ) (te := tD X.K D te) hr hg hm hb TB hcode S hN hi ht hel hs he) fun σ H Q ⟨w, E, T, Qh, R, hf, q⟩ => ⟨w, E, T, _, R, hf, fun xs T1 J H1 s1 it h1 => by
    obtain ⟨Gd, Y, wk, hG, hY⟩ := it
    obtain ⟨val, hp, hq⟩ := h1
    have R1 := R.step s1
    have hT := R1.wd.tab P hP
    obtain ⟨qs, eP, rP⟩ := id hT
    refine ⟨⟨qs, (hidL_off eP).2, rP⟩, xs.length, val, fun S j σ' H' => Rp X.K D (w.grow (wipeE E (own.map (·.2))).length S) (wipeE E (own.map (·.2))) T1 σ' H' ∧ S ∉ w.O ∧ w.off S ∧ ((∀ k xs, (wipeE E (own.map (·.2)))[k]? = some (.own xs) → (w.grow (wipeE E (own.map (·.2))).length S).adr k ≠ S) ∧ (w.grow (wipeE E (own.map (·.2))).length S).tag S = 0) ∧ Ky (hidL w.O H1) (hidL (S :: w.O) H') ∧ ∀ a ∈ w.O, w.off a → H' a = H1 a,
      fun H2 S tt nS => ?_, fun S j σ' H' hj hS W => ?_, fun S σ' H' W => wk.stops H' (hG (w.grow (wipeE E (own.map (·.2))).length S) H' W.2.2.2.2.1), fun S σ' H' W => ?_⟩
    · have st := stp_tab R1.wd hT tt
      have R2 := (R1.step st).wipe (own.map (·.2))
      have so := stpO_new (vs := [.int 0]) R2.wd nS
      obtain ⟨R3, nad⟩ := R2.growF so (Nat.le_refl _)
      exact ⟨R3, so.new, so.off, nad, st.ky.trans so.ky, fun a ha ho => (so.same a ha ho).trans (st.same a ha ho)⟩
    · obtain ⟨R2, nO, of, nad, ky, sm0⟩ := W
      generalize hw : w.grow (wipeE E (own.map (·.2))).length S = w1 at R2 nad ⊢
      have wO : w1.O = S :: w.O := by rw [← hw]; rfl
      have SO : S ∈ w1.O := by rw [wO]; exact List.mem_cons_self
      have wof : ∀ {a : Addr}, w.off a → w1.off a := fun {a} h => by rw [← hw]; exact h
      rw [← wO] at ky
      refine ⟨wk.goes j H' hj (hG w1 H' ky), fun v H2 yy => ?_⟩
      obtain ⟨sm, d, e, yo⟩ := hY j H' v H2 (wk.yields j H' v H2 hj (hG w1 H' ky) yy)
      have s2 := R2.wd.stp sm
      refine ⟨w1, _, T1, d, _, R2.step s2, yo w1 ky, hp j d e, fun E3 σ3 R3 wi h3 => ⟨w1, E3, T1, _, R3, h3, fun y T2 v4 H4 s4 d4 h4 => ?_⟩⟩
      obtain ⟨rfl, rfl⟩ := h4
      have st := s2.trans s4
      have hh : hidL w1.O (upd H4 S (.lst [.int (preSum val j + val j)])) = hidL w1.O H4 := hidL_upd SO
      refine ⟨df_int d4, (st.same S SO (wof of)).trans hS, by rw [hw]; exact (((R2.step s2).step s4).wip wi).updF SO (wof of) nad, nO, of, by rw [hw]; exact nad, by rw [← wO, hh]; exact ky.trans st.ky, fun a ha ho => ?_⟩
      rw [upd_ne (fun z : a = S => nO (by rw [← z]; exact ha))]
      exact (st.same a (by rw [wO]; exact List.mem_cons_of_mem _ ha) (wof ho)).trans (sm0 a ha ho)
    · obtain ⟨R2, nO, of, nad, ky, sm0⟩ := W
      exact q _ T1 _ H' (s1.trans ⟨ky.trans (Ky.of hidL_cons_le), sm0, fun h => (R2.wd.pur h).1⟩) (.int _) hq⟩
end
/-! a def with a generator that may let one out -/
section
variable {P : Program} {w : World} {K : PySem.W.Frag} {mg : Str → Option Value} {base : Heap} {tb : List Addr}
theorem fndCX {x qual : Str} {st : Stmt} {f c : Addr} {fd : FuncData} {N ps : List Str} {k : Nat} {G : DSp} (F : FunC K x qual st f c fd) (S : FnScope N ps (defScope st)) (len : ∀ as T Q E, G as T Q E → as.length = ps.length)
    (body : ∀ (A : Around) (outer : List Env) (s : Shared) (H : Hp) (E : XK) (Eh : DX → Prop), Room k (A.deeper (envOfC qual (defScope st) s.heap.objs.size f (.ref c))) →
      ∃ g, PSsd (cxOf (L2.CX P w) P w K mg base N qual (defScope st) f (.ref c) A outer s H E) ⟨tb, E, Eh⟩ (defBody st) g ∧ ∀ as T Qh, G as T Qh Eh → g (startE N as) T { nx := fun _ T' => Qh (.d .none) T', rt := Qh }) :
    FnOk P w K mg base (L2.CX P w) (k + 1) f fd ps (spF K tb G) := by
  have hN : ps.length ≤ N.length := by have := congrArg List.length S.pre; rw [List.length_take] at this; omega
  have len' : ∀ vs H Q E, spF K tb G vs H Q E → vs.length = ps.length := fun vs H Q E h => by
    obtain ⟨_, _, _, as, T, Qh, Eh, ha, _, _, hG, _⟩ := h
    rw [paired_len ha]
    exact len as T Qh Eh hG
  obtain ⟨oc, od, kV, doc, pm, an, ct, osl, rfl, lk, hcd⟩ := F.ex
  refine fn_of lk hcd S len' fun A outer s H vs Q E hr h => ?_
  have hl := len' _ _ _ _ h
  obtain ⟨hp, p, c, as, T, Qh, Eh, ha, ht, hP, hG, q1, q2, q3⟩ := h
  obtain ⟨g, hg, hi⟩ := body A outer s H E Eh hr
  exact ⟨_, hg, body_of (X := cxOf (L2.CX P w) P w K mg base N qual (defScope st) f (.ref _) A outer s H E) (D := ⟨tb, E, Eh⟩) (G := G) (sts := defBody st) (by omega) ha ht hP q3 q1 q2 (hi as T Qh hG)⟩
end
end Dv
set_option Elab.async false
set_option linter.all false
set_option maxRecDepth 100000
set_option maxHeartbeats 1000000
namespace Dv
open PySem PySem.Spec PyProof.Rows L2
/-! ### fractions -/
theorem dvd_gcd_nat {n : Nat} {a b : Int} (h : (n : Int) ∣ a) (g : (n : Int) ∣ b) : n ∣ Int.gcd a b := by
  have := Int.dvd_coe_gcd h g
  exact_mod_cast this
theorem gcd_step {a b : Int} : Int.gcd b (a % b) = Int.gcd a b := by
  apply Nat.dvd_antisymm
  · apply dvd_gcd_nat
    · have h1 := Int.gcd_dvd_right b (a % b)
      have h2 := Int.gcd_dvd_left b (a % b)
      have h3 := Int.dvd_add h1 (Int.dvd_trans h2 (Int.dvd_mul_right b (a / b)))
      rw [Int.emod_add_mul_ediv] at h3
      exact h3
    · exact Int.gcd_dvd_left _ _
  · apply dvd_gcd_nat
    · exact Int.gcd_dvd_right _ _
    · have h1 := Int.gcd_dvd_left a b
      have h2 := Int.gcd_dvd_right a b
      rw [Int.emod_def]
      exact Int.dvd_sub h1 (Int.dvd_trans h2 (Int.dvd_mul_right b (a / b)))
theorem divInt_pos {t b : Int} (h : 0 < b) : (Rat.divInt t b).num = t / (Int.gcd t b : Int) ∧ ((Rat.divInt t b).den : Int) = b / (Int.gcd t b : Int) := by
  obtain ⟨n, rfl⟩ : ∃ n : Nat, b = (n : Int) := ⟨b.toNat, by omega⟩
  have hn : n ≠ 0 := by omega
  rw [Rat.divInt_ofNat, Rat.num_mkRat, Rat.den_mkRat, if_neg hn, if_neg hn, Int.gcd_eq_natAbs_gcd_natAbs, Int.natAbs_natCast, Nat.gcd_comm n]
  exact ⟨rfl, by rw [Int.natCast_ediv]⟩
/-- denominators divide N, as great as M at most -/
structure Cd (N M : Nat) (q : Rat) : Prop where
  dv : q.den ∣ N
  lo : -(M : Rat) ≤ q
  hi : q ≤ (M : Rat)
theorem den_dvd {q : Rat} {N : Nat} (h : N ≠ 0) : q.den ∣ N ↔ ∃ k : Int, q = (k : Rat) / (N : Rat) := by
  constructor
  · rintro ⟨c, rfl⟩
    refine ⟨q.num * c, ?_⟩
    have e := Rat.num_divInt_den q
    rw [Rat.divInt_eq_div] at e
    have hc : c ≠ 0 := fun z => h (by rw [z, Nat.mul_zero])
    have hd : (q.den : Rat) ≠ 0 := by have := q.den_nz; exact_mod_cast this
    have hc' : (c : Rat) ≠ 0 := by exact_mod_cast hc
    push_cast at e ⊢
    grind
  · rintro ⟨k, e⟩
    have e2 : q = Rat.divInt k (N : Int) := by rw [Rat.divInt_eq_div, e]; push_cast; rfl
    rw [e2, Rat.divInt_ofNat, Rat.den_mkRat, if_neg h]
    exact Nat.div_dvd_of_dvd (Nat.gcd_dvd_left _ _)
theorem Cd.num {N M : Nat} {q : Rat} (h : Cd N M q) (hN : 0 < N) : q.num.natAbs ≤ M * N ∧ q.den ≤ N := by
  have hd := Nat.le_of_dvd hN h.dv
  refine ⟨?_, hd⟩
  have h1 := (Rat.le_iff _ _).mp h.hi
  have h2 := (Rat.le_iff _ _).mp h.lo
  rw [Rat.den_natCast, Rat.num_natCast] at h1
  have e3 : (-(M : Rat)).num = -(M : Int) := by rw [Rat.neg_num, Rat.num_natCast]
  have e4 : (-(M : Rat)).den = 1 := by rw [Rat.neg_den, Rat.den_natCast]
  rw [e3, e4] at h2
  have h3 : ((M * q.den : Nat) : Int) ≤ ((M * N : Nat) : Int) := by exact_mod_cast Nat.mul_le_mul_left M hd
  push_cast at h1 h2 h3
  rw [Int.neg_mul] at h2
  omega
theorem Cd.mono {N M N' M' : Nat} {q : Rat} (h : Cd N M q) (hN : N ∣ N') (hM : M ≤ M') : Cd N' M' q := by
  have : (M : Rat) ≤ (M' : Rat) := by exact_mod_cast hM
  exact ⟨Nat.dvd_trans h.dv hN, by have := h.lo; grind, by have := h.hi; grind⟩
theorem Cd.add {N M M' : Nat} {p q : Rat} (hN : N ≠ 0) (h : Cd N M p) (g : Cd N M' q) : Cd N (M + M') (p + q) := by
  obtain ⟨k, e⟩ := (den_dvd hN).mp h.dv
  obtain ⟨l, f⟩ := (den_dvd hN).mp g.dv
  refine ⟨(den_dvd hN).mpr ⟨k + l, ?_⟩, ?_, ?_⟩
  · push_cast
    grind
  · have := h.lo; have := g.lo; push_cast; grind
  · have := h.hi; have := g.hi; push_cast; grind
theorem Cd.neg {N M : Nat} {p : Rat} (h : Cd N M p) : Cd N M (-p) := ⟨by rw [Rat.neg_den]; exact h.dv, by have := h.hi; grind, by have := h.lo; grind⟩
theorem Cd.sub {N M M' : Nat} {p q : Rat} (hN : N ≠ 0) (h : Cd N M p) (g : Cd N M' q) : Cd N (M + M') (p - q) := by
  rw [Rat.sub_eq_add_neg]
  exact h.add hN g.neg
theorem cd_int {N M : Nat} {i : Int} (h : i.natAbs ≤ M) : Cd N M (i : Rat) := by
  refine ⟨by rw [Rat.den_intCast]; exact Nat.one_dvd _, ?_, ?_⟩
  · have : -(M : Int) ≤ i := by omega
    have h2 := Rat.intCast_le_intCast.mpr this
    rw [Rat.intCast_neg, Rat.intCast_natCast] at h2
    exact h2
  · have : i ≤ (M : Int) := by omega
    exact_mod_cast this
theorem cd_zero {N M : Nat} : Cd N M 0 := cd_int (i := 0) (Nat.zero_le _)
theorem Cd.sum {N M : Nat} (hN : N ≠ 0) : ∀ {qs : List Rat}, (∀ q ∈ qs, Cd N M q) → Cd N (qs.length * M) qs.sum
  | [], _ => by rw [List.sum_nil]; exact cd_zero
  | q :: r, h => by
    rw [List.sum_cons, List.length_cons, Nat.add_mul, Nat.one_mul, Nat.add_comm]
    exact (h q List.mem_cons_self).add hN (Cd.sum hN fun x hx => h x (List.mem_cons_of_mem _ hx))
theorem Cd.div {N M n : Nat} {q : Rat} (hN : N ≠ 0) (h : Cd N M q) (hn : 0 < n) : Cd (N * n) M (q / (n : Rat)) := by
  obtain ⟨k, e⟩ := (den_dvd hN).mp h.dv
  have hn' : (1 : Rat) ≤ (n : Rat) := by exact_mod_cast hn
  have hM : (0 : Rat) ≤ (M : Rat) := by exact_mod_cast Nat.zero_le M
  have hi : q / (n : Rat) * n = q := by grind
  refine ⟨(den_dvd (Nat.mul_ne_zero hN (by omega))).mpr ⟨k, ?_⟩, ?_, ?_⟩
  · push_cast
    grind
  · have h1 := h.lo
    apply Decidable.byContradiction
    intro z
    have z2 : q / (n : Rat) < -(M : Rat) := Rat.not_le.mp z
    have := Rat.mul_le_mul_of_nonneg_right (c := (n : Rat) - 1) (Rat.le_of_lt z2) (by grind)
    have := Rat.mul_nonneg hM (show (0 : Rat) ≤ (n : Rat) - 1 by grind)
    grind
  · have h1 := h.hi
    apply Decidable.byContradiction
    intro z
    have z2 : (M : Rat) < q / (n : Rat) := Rat.not_le.mp z
    have := Rat.mul_le_mul_of_nonneg_right (c := (n : Rat) - 1) (Rat.le_of_lt z2) (by grind)
    have := Rat.mul_nonneg hM (show (0 : Rat) ≤ (n : Rat) - 1 by grind)
    grind

def frD (q : Rat) : PyData := .tuple [.int q.num, .int q.den]
/-- numbers that are easily reckoned with -/
def big4 : Nat := 2 ^ 4000
theorem wI_of {i : Int} (h : i.natAbs < 2 ^ 8000) : wI i = true := by
  unfold wI
  refine decide_eq_true ?_
  by_cases e : i.natAbs = 0
  · rw [e]
    decide
  · exact Nat.lt_trans ((Nat.log2_lt e).mpr h) (by decide)
theorem s_mul {i j : Int} (h : i.natAbs < 2 ^ 8000) (g : j.natAbs < 2 ^ 8000) : mulD (.int i) (.int j) = some (.int (i * j)) := by
  show (if (wI i && wI j) = true then _ else _) = _
  rw [wI_of h, wI_of g]
  rfl
theorem s_mod {i j : Int} (h : 0 < j) : modD (.int i) (.int j) = some (.int (i % j)) := if_pos h
theorem s_fdiv {i j : Int} (h : 0 < j) (g : j.natAbs < 2 ^ 8000) : fdivD (.int i) (.int j) = some (.int (i / j)) := if_pos ⟨h, by
  refine Nat.lt_trans ((Nat.log2_lt (by omega)).mpr g) (by decide)⟩
theorem q_mul {i j : Int} {T : Nat} {Q : PyData → Nat → Prop} (h : i.natAbs < 2 ^ 8000) (g : j.natAbs < 2 ^ 8000) (q : Q (.int (i * j)) T) : optQ (mulD (.int i) (.int j)) T Q := optQ_of (s_mul h g) q
theorem q_mod {i j : Int} {T : Nat} {Q : PyData → Nat → Prop} (h : 0 < j) (q : Q (.int (i % j)) T) : optQ (modD (.int i) (.int j)) T Q := optQ_of (s_mod h) q
theorem q_fdiv {i j : Int} {T : Nat} {Q : PyData → Nat → Prop} (h : 0 < j) (g : j.natAbs < 2 ^ 8000) (q : Q (.int (i / j)) T) : optQ (fdivD (.int i) (.int j)) T Q := optQ_of (s_fdiv h g) q
theorem small8 {i : Int} (h : i.natAbs ≤ 1000000000000) : i.natAbs < 2 ^ 8000 := Nat.lt_of_le_of_lt h (by decide)
theorem two_pow_add {a b : Nat} {m n : Nat} (h : a < 2 ^ m) (g : b < 2 ^ n) : a * b < 2 ^ (m + n) := by
  rw [Nat.pow_add]
  exact Nat.mul_lt_mul'' h g

abbrev s_greatestdivisor : Stmt := topS 16
abbrev n_greatestdivisor : List Str := ["one", "other"]
theorem sc_greatestdivisor : FnScope n_greatestdivisor ["one", "other"] (defScope s_greatestdivisor) := ⟨rfl, rfl, rfl, by decide +kernel, rfl, by decide +kernel, by decide +kernel⟩
def G_greatest_divisor : DSp := fun as T Q _ => match as with
  | [.d (.int a), .d (.int b)] => 0 ≤ b ∧ Q (.d (.int (Int.gcd a b : Nat))) T
  | _ => False
section
variable {P : Program} {w : World} {K : PySem.W.Frag} {mg : Str → Option Value} {base : Heap}
theorem ok_greatestdivisor {f : Addr} {fd : FuncData} {k : Nat} {tb : List Addr} (F : Fun K "greatest_divisor" "greatest_divisor" s_greatestdivisor f fd) (m_abs : mg "abs" = none) : FnOk P w K mg base (L2.CX P w) (k + 1) f fd ["one", "other"] (spF K tb (G_greatest_divisor)) := by
  refine fnd F sc_greatestdivisor (fun as T Q E h => ?_) (fun cdv A outer s H E hr => ⟨_, (pssd_cons (psd_while PassesOwn.never (ptd_cmp (opd_ne hr.units) (pk_var (pv 1)) (PD.k pd_int) (nomark _)) (pssd_one (psd_par (i := 0) (j := 1) rfl sc_greatestdivisor.nd rfl rfl (by decide) rfl rfl (pxd_cons (pd_var (pv 1)) (pxd_cons (pd_op opd_mod (pk_var (pv 0)) (pk_var (pv 1))) pxd_nil)) rfl)))
      (pssd_one (psd_ret (pd_b1 cad_abs (by rfl) m_abs (by decide +kernel) (pk_var (pv 0)))))), fun as T Qh Eh h => ?_⟩)
  · unfold G_greatest_divisor at h
    split at h
    · rfl
    · exact h.elim
  · unfold G_greatest_divisor at h
    split at h
    · rename_i a b
      rw [show ∀ a0 a1, startE n_greatestdivisor [a0, a1] = [a0, a1] from fun _ _ => rfl]
      try simp only [dIsNv, dRevO, dPar, dPar3, dTryB, bSeq, bIf, bCall, bNil, dAug, iR3, dMod0, xStar, dRepO, dExcA, dTryK, dIsx, lose, loseV, dSeq, dRet, dRetN, dIfS, dTst, dTru, dOp, dVar, dVarK, dC, dChain, dNot, dAnd, dOr, dAndE, dOrE, dNotE, dBoolE, dIf, dFn, dB, dTup, dLst, dO, xNil, xCons, dNext, dSet, dSetO, dRel, relE, dExpr, dCall, dCallO, dCons, dNil, dPurA, dAsg, gdName, gdNil, gdCons, gdTup, dForS, dCut, dCutO, dNoP, dPart, dCatO, dListO, dLc, wipeE, dApp, dIns, dSetIx, dRaise, dRetO, dRetOE, dCount, dRev, iL, iT, iS, iR1, iR2, iEL, iET, iZ, dYes, s_tb, s_tn, s_ti, s_tl, s_tt, s_dd, s_do, s_ll, s_lt, s_ls, s_ul, s_ut, s_isStr_none, s_isStr_bool, s_isStr_int, s_isStr_str, s_isStr_list, s_isStr_tuple, s_isTup_none, s_isTup_bool, s_isTup_int, s_isTup_str, s_isTup_list, s_isTup_tuple, s_isLst_none, s_isLst_bool, s_isLst_int, s_isLst_str, s_isLst_list, s_isLst_tuple, s_isInt_none, s_isInt_bool, s_isInt_int, s_isInt_str, s_isInt_list, s_isInt_tuple, s_isBool_none, s_isBool_bool, s_isBool_int, s_isBool_str, s_isBool_list, s_isBool_tuple, s_isN_none, s_isN_bool, s_isN_int, s_isN_str, s_isN_list, s_isN_tuple, s_is, s_isnt, s_xl, s_xt, s_xs, s_cl, s_ct, s_cs, s_add, s_sub, s_lti, s_lei, s_gti, s_gei, s_min, s_max, s_neg, s_abs, s_os, at0, at1, at2, eqD_int, neD_int, List.getElem?_cons_zero, List.getElem?_cons_succ, List.set_cons_zero, List.set_cons_succ, List.map_cons, List.map_nil, Bool.false_eq_true, Bool.not_true, Bool.not_false, ite_true, ite_false, if_true, if_false, true_and, and_true]
      refine ⟨fun m E' T' => (∃ x y, E' = [.d (.int x), .d (.int y)] ∧ m = y.toNat ∧ 0 ≤ y ∧ Int.gcd x y = Int.gcd a b) ∧ T' = T, ⟨b.toNat, ⟨a, b, rfl, rfl, h.1, rfl⟩, rfl⟩, fun m E' T' hI => ?_⟩
      obtain ⟨⟨x, y, rfl, rfl, hy, hg⟩, rfl⟩ := hI
      try simp only [dIsNv, dRevO, dPar, dPar3, dTryB, bSeq, bIf, bCall, bNil, dAug, iR3, dMod0, xStar, dRepO, dExcA, dTryK, dIsx, lose, loseV, dSeq, dRet, dRetN, dIfS, dTst, dTru, dOp, dVar, dVarK, dC, dChain, dNot, dAnd, dOr, dAndE, dOrE, dNotE, dBoolE, dIf, dFn, dB, dTup, dLst, dO, xNil, xCons, dNext, dSet, dSetO, dRel, relE, dExpr, dCall, dCallO, dCons, dNil, dPurA, dAsg, gdName, gdNil, gdCons, gdTup, dForS, dCut, dCutO, dNoP, dPart, dCatO, dListO, dLc, wipeE, dApp, dIns, dSetIx, dRaise, dRetO, dRetOE, dCount, dRev, iL, iT, iS, iR1, iR2, iEL, iET, iZ, dYes, s_tb, s_tn, s_ti, s_tl, s_tt, s_dd, s_do, s_ll, s_lt, s_ls, s_ul, s_ut, s_isStr_none, s_isStr_bool, s_isStr_int, s_isStr_str, s_isStr_list, s_isStr_tuple, s_isTup_none, s_isTup_bool, s_isTup_int, s_isTup_str, s_isTup_list, s_isTup_tuple, s_isLst_none, s_isLst_bool, s_isLst_int, s_isLst_str, s_isLst_list, s_isLst_tuple, s_isInt_none, s_isInt_bool, s_isInt_int, s_isInt_str, s_isInt_list, s_isInt_tuple, s_isBool_none, s_isBool_bool, s_isBool_int, s_isBool_str, s_isBool_list, s_isBool_tuple, s_isN_none, s_isN_bool, s_isN_int, s_isN_str, s_isN_list, s_isN_tuple, s_is, s_isnt, s_xl, s_xt, s_xs, s_cl, s_ct, s_cs, s_add, s_sub, s_lti, s_lei, s_gti, s_gei, s_min, s_max, s_neg, s_abs, s_os, at0, at1, at2, eqD_int, neD_int, List.getElem?_cons_zero, List.getElem?_cons_succ, List.set_cons_zero, List.set_cons_succ, List.map_cons, List.map_nil, Bool.false_eq_true, Bool.not_true, Bool.not_false, ite_true, ite_false, if_true, if_false, true_and, and_true]
      refine dif (fun e => ?_) (fun e => ?_)
      · have e2 := of_decide_eq_false (nT e)
        have hp : 0 < y := by omega
        rw [s_mod hp]
        try simp only [dIsNv, dRevO, dPar, dPar3, dTryB, bSeq, bIf, bCall, bNil, dAug, iR3, dMod0, xStar, dRepO, dExcA, dTryK, dIsx, lose, loseV, dSeq, dRet, dRetN, dIfS, dTst, dTru, dOp, dVar, dVarK, dC, dChain, dNot, dAnd, dOr, dAndE, dOrE, dNotE, dBoolE, dIf, dFn, dB, dTup, dLst, dO, xNil, xCons, dNext, dSet, dSetO, dRel, relE, dExpr, dCall, dCallO, dCons, dNil, dPurA, dAsg, gdName, gdNil, gdCons, gdTup, dForS, dCut, dCutO, dNoP, dPart, dCatO, dListO, dLc, wipeE, dApp, dIns, dSetIx, dRaise, dRetO, dRetOE, dCount, dRev, iL, iT, iS, iR1, iR2, iEL, iET, iZ, dYes, s_tb, s_tn, s_ti, s_tl, s_tt, s_dd, s_do, s_ll, s_lt, s_ls, s_ul, s_ut, s_isStr_none, s_isStr_bool, s_isStr_int, s_isStr_str, s_isStr_list, s_isStr_tuple, s_isTup_none, s_isTup_bool, s_isTup_int, s_isTup_str, s_isTup_list, s_isTup_tuple, s_isLst_none, s_isLst_bool, s_isLst_int, s_isLst_str, s_isLst_list, s_isLst_tuple, s_isInt_none, s_isInt_bool, s_isInt_int, s_isInt_str, s_isInt_list, s_isInt_tuple, s_isBool_none, s_isBool_bool, s_isBool_int, s_isBool_str, s_isBool_list, s_isBool_tuple, s_isN_none, s_isN_bool, s_isN_int, s_isN_str, s_isN_list, s_isN_tuple, s_is, s_isnt, s_xl, s_xt, s_xs, s_cl, s_ct, s_cs, s_add, s_sub, s_lti, s_lei, s_gti, s_gei, s_min, s_max, s_neg, s_abs, s_os, at0, at1, at2, eqD_int, neD_int, List.getElem?_cons_zero, List.getElem?_cons_succ, List.set_cons_zero, List.set_cons_succ, List.map_cons, List.map_nil, Bool.false_eq_true, Bool.not_true, Bool.not_false, ite_true, ite_false, if_true, if_false, true_and, and_true]
        refine ⟨(x % y).toNat, ?_, ⟨_, _, rfl, rfl, Int.emod_nonneg _ e2, by rw [gcd_step]; exact hg⟩⟩
        have := Int.emod_lt_of_pos x hp
        have := Int.emod_nonneg x e2
        omega
      · have e2 := of_decide_eq_true (nF e)
        subst e2
        have ea : (if x < 0 then -x else x) = ((Int.gcd a b : Nat) : Int) := by
          rw [← hg, Int.gcd_zero_right]
          omega
        rw [ea]
        exact h.2
    · exact h.elim

end
abbrev s_fraction : Stmt := topS 17
abbrev n_fraction : List Str := ["top", "bottom", "divisor"]
theorem sc_fraction : FnScope n_fraction ["top", "bottom"] (defScope s_fraction) := ⟨rfl, rfl, rfl, by decide +kernel, rfl, by decide +kernel, by decide +kernel⟩
def G_fraction : DSp := fun as T Q _ => match as with
  | [.d (.int t), .d (.int b)] => 0 < b ∧ t.natAbs < 2 ^ 8000 ∧ b.natAbs < 2 ^ 8000 ∧ Q (.d (frD (Rat.divInt t b))) T
  | _ => False
section
variable {P : Program} {w : World} {K : PySem.W.Frag} {mg : Str → Option Value} {base : Heap}
theorem ok_fraction {f : Addr} {fd : FuncData} {k : Nat} {tb : List Addr} (F : Fun K "fraction" "fraction" s_fraction f fd) (A_greatest_divisor : AtD P w K mg base k tb "greatest_divisor" ["one", "other"] (G_greatest_divisor)) : FnOk P w K mg base (L2.CX P w) (k + 1) f fd ["top", "bottom"] (spF K tb (G_fraction)) := by
  refine fnd F sc_fraction (fun as T Q E h => ?_) (fun cdv A outer s H E hr => ⟨_, (pssd_cons (psd_set (i := 2) sc_fraction.nd rfl (.inl rfl) (pd_call A_greatest_divisor hr (by rfl) (pad_cons (pd_var (pv 0)) (pad_cons (pd_var (pv 1)) pad_nil))))
      (pssd_cons (psd_if (ptd_cmp opd_lt (pk_var (pv 1)) (PD.k pd_int) (nomark _)) (pssd_one (psd_set (i := 2) sc_fraction.nd rfl (.inl rfl) (pd_neg (pk_var (pv 2))))) pssd_nil)
      (pssd_one (psd_ret (pd_tup (pxd_cons (pd_op opd_fdiv (pk_var (pv 0)) (pk_var (pv 2))) (pxd_cons (pd_op opd_fdiv (pk_var (pv 1)) (pk_var (pv 2))) pxd_nil))))))), fun as T Qh Eh h => ?_⟩)
  · unfold G_fraction at h
    split at h
    · rfl
    · exact h.elim
  · unfold G_fraction at h
    split at h
    · rename_i t b
      obtain ⟨h0, h1, h2, h⟩ := h
      have hc : Int.gcd t b ≠ 0 := fun z => by
        have := Int.gcd_eq_zero_iff.mp z
        omega
      have hl : Int.gcd t b ≤ b.natAbs := Nat.le_of_dvd (by omega) (Int.natAbs_dvd_natAbs.mpr (Int.gcd_dvd_right t b))
      rw [show ∀ a0 a1, startE n_fraction [a0, a1] = [a0, a1, .no] from fun _ _ => rfl]
      try simp only [dIsNv, dRevO, dPar, dPar3, dTryB, bSeq, bIf, bCall, bNil, dAug, iR3, dMod0, xStar, dRepO, dExcA, dTryK, dIsx, lose, loseV, dSeq, dRet, dRetN, dIfS, dTst, dTru, dOp, dVar, dVarK, dC, dChain, dNot, dAnd, dOr, dAndE, dOrE, dNotE, dBoolE, dIf, dFn, dB, dTup, dLst, dO, xNil, xCons, dNext, dSet, dSetO, dRel, relE, dExpr, dCall, dCallO, dCons, dNil, dPurA, dAsg, gdName, gdNil, gdCons, gdTup, dForS, dCut, dCutO, dNoP, dPart, dCatO, dListO, dLc, wipeE, dApp, dIns, dSetIx, dRaise, dRetO, dRetOE, dCount, dRev, iL, iT, iS, iR1, iR2, iEL, iET, iZ, dYes, s_tb, s_tn, s_ti, s_tl, s_tt, s_dd, s_do, s_ll, s_lt, s_ls, s_ul, s_ut, s_isStr_none, s_isStr_bool, s_isStr_int, s_isStr_str, s_isStr_list, s_isStr_tuple, s_isTup_none, s_isTup_bool, s_isTup_int, s_isTup_str, s_isTup_list, s_isTup_tuple, s_isLst_none, s_isLst_bool, s_isLst_int, s_isLst_str, s_isLst_list, s_isLst_tuple, s_isInt_none, s_isInt_bool, s_isInt_int, s_isInt_str, s_isInt_list, s_isInt_tuple, s_isBool_none, s_isBool_bool, s_isBool_int, s_isBool_str, s_isBool_list, s_isBool_tuple, s_isN_none, s_isN_bool, s_isN_int, s_isN_str, s_isN_list, s_isN_tuple, s_is, s_isnt, s_xl, s_xt, s_xs, s_cl, s_ct, s_cs, s_add, s_sub, s_lti, s_lei, s_gti, s_gei, s_min, s_max, s_neg, s_abs, s_os, at0, at1, at2, eqD_int, neD_int, List.getElem?_cons_zero, List.getElem?_cons_succ, List.set_cons_zero, List.set_cons_succ, List.map_cons, List.map_nil, Bool.false_eq_true, Bool.not_true, Bool.not_false, ite_true, ite_false, if_true, if_false, true_and, and_true]
      refine ⟨by omega, ?_⟩
      try simp only [dIsNv, dRevO, dPar, dPar3, dTryB, bSeq, bIf, bCall, bNil, dAug, iR3, dMod0, xStar, dRepO, dExcA, dTryK, dIsx, lose, loseV, dSeq, dRet, dRetN, dIfS, dTst, dTru, dOp, dVar, dVarK, dC, dChain, dNot, dAnd, dOr, dAndE, dOrE, dNotE, dBoolE, dIf, dFn, dB, dTup, dLst, dO, xNil, xCons, dNext, dSet, dSetO, dRel, relE, dExpr, dCall, dCallO, dCons, dNil, dPurA, dAsg, gdName, gdNil, gdCons, gdTup, dForS, dCut, dCutO, dNoP, dPart, dCatO, dListO, dLc, wipeE, dApp, dIns, dSetIx, dRaise, dRetO, dRetOE, dCount, dRev, iL, iT, iS, iR1, iR2, iEL, iET, iZ, dYes, s_tb, s_tn, s_ti, s_tl, s_tt, s_dd, s_do, s_ll, s_lt, s_ls, s_ul, s_ut, s_isStr_none, s_isStr_bool, s_isStr_int, s_isStr_str, s_isStr_list, s_isStr_tuple, s_isTup_none, s_isTup_bool, s_isTup_int, s_isTup_str, s_isTup_list, s_isTup_tuple, s_isLst_none, s_isLst_bool, s_isLst_int, s_isLst_str, s_isLst_list, s_isLst_tuple, s_isInt_none, s_isInt_bool, s_isInt_int, s_isInt_str, s_isInt_list, s_isInt_tuple, s_isBool_none, s_isBool_bool, s_isBool_int, s_isBool_str, s_isBool_list, s_isBool_tuple, s_isN_none, s_isN_bool, s_isN_int, s_isN_str, s_isN_list, s_isN_tuple, s_is, s_isnt, s_xl, s_xt, s_xs, s_cl, s_ct, s_cs, s_add, s_sub, s_lti, s_lei, s_gti, s_gei, s_min, s_max, s_neg, s_abs, s_os, at0, at1, at2, eqD_int, neD_int, List.getElem?_cons_zero, List.getElem?_cons_succ, List.set_cons_zero, List.set_cons_succ, List.map_cons, List.map_nil, Bool.false_eq_true, Bool.not_true, Bool.not_false, ite_true, ite_false, if_true, if_false, true_and, and_true]
      refine diF (decide_eq_false (by omega)) ?_
      have hg : (0 : Int) < ((Int.gcd t b : Nat) : Int) := by omega
      have hb : ((Int.gcd t b : Nat) : Int).natAbs < 2 ^ 8000 := by
        rw [Int.natAbs_natCast]
        exact Nat.lt_of_le_of_lt hl h2
      rw [s_fdiv hg hb, s_fdiv hg hb]
      try simp only [dIsNv, dRevO, dPar, dPar3, dTryB, bSeq, bIf, bCall, bNil, dAug, iR3, dMod0, xStar, dRepO, dExcA, dTryK, dIsx, lose, loseV, dSeq, dRet, dRetN, dIfS, dTst, dTru, dOp, dVar, dVarK, dC, dChain, dNot, dAnd, dOr, dAndE, dOrE, dNotE, dBoolE, dIf, dFn, dB, dTup, dLst, dO, xNil, xCons, dNext, dSet, dSetO, dRel, relE, dExpr, dCall, dCallO, dCons, dNil, dPurA, dAsg, gdName, gdNil, gdCons, gdTup, dForS, dCut, dCutO, dNoP, dPart, dCatO, dListO, dLc, wipeE, dApp, dIns, dSetIx, dRaise, dRetO, dRetOE, dCount, dRev, iL, iT, iS, iR1, iR2, iEL, iET, iZ, dYes, s_tb, s_tn, s_ti, s_tl, s_tt, s_dd, s_do, s_ll, s_lt, s_ls, s_ul, s_ut, s_isStr_none, s_isStr_bool, s_isStr_int, s_isStr_str, s_isStr_list, s_isStr_tuple, s_isTup_none, s_isTup_bool, s_isTup_int, s_isTup_str, s_isTup_list, s_isTup_tuple, s_isLst_none, s_isLst_bool, s_isLst_int, s_isLst_str, s_isLst_list, s_isLst_tuple, s_isInt_none, s_isInt_bool, s_isInt_int, s_isInt_str, s_isInt_list, s_isInt_tuple, s_isBool_none, s_isBool_bool, s_isBool_int, s_isBool_str, s_isBool_list, s_isBool_tuple, s_isN_none, s_isN_bool, s_isN_int, s_isN_str, s_isN_list, s_isN_tuple, s_is, s_isnt, s_xl, s_xt, s_xs, s_cl, s_ct, s_cs, s_add, s_sub, s_lti, s_lei, s_gti, s_gei, s_min, s_max, s_neg, s_abs, s_os, at0, at1, at2, eqD_int, neD_int, List.getElem?_cons_zero, List.getElem?_cons_succ, List.set_cons_zero, List.set_cons_succ, List.map_cons, List.map_nil, Bool.false_eq_true, Bool.not_true, Bool.not_false, ite_true, ite_false, if_true, if_false, true_and, and_true]
      refine ⟨by show 2 ≤ 1000000; decide, ?_⟩
      have e := divInt_pos (t := t) h0
      rw [← e.1, ← e.2]
      exact h
    · exact h.elim

end
abbrev n_Lshared : List Str := ["_law_one", "_law_other", "_law_rest"]
def G__law_shared : DSp := fun as T Q _ => match as with
  | [.d (.int a), .d (.int b)] => 0 ≤ b ∧ Q (.d (.int (Int.gcd a b : Nat))) T
  | _ => False
section
variable {P : Program} {w : World} {K : PySem.W.Frag} {mg : Str → Option Value} {base : Heap}
end
section
variable {P : Program} {w : World} {K : PySem.W.Frag} {mg : Str → Option Value} {base : Heap}
end
end Dv
set_option Elab.async false
set_option linter.all false
set_option maxRecDepth 100000
set_option maxHeartbeats 1000000
namespace Dv
open PySem PySem.Spec PyProof.Rows L2
def isWholeD : PyData → Bool
  | .int _ => true
  | _ => false
def withinD (a b : Int) : PyData → Bool
  | .int i => decide (a ≤ i) && decide (i ≤ b)
  | _ => false
/-- a small letter -/
def isL (c : Nat) : Bool := decide (97 ≤ c) && decide (c ≤ 122)
def isWordD (m : Int) : PyData → Bool
  | .str z => decide (1 ≤ (z.length : Int)) && (decide ((z.length : Int) ≤ m) && z.cps.toList.all isL)
  | _ => false
def isTof (n : Int) : PyData → Bool
  | .tuple ds => decide ((ds.length : Int) = n)
  | _ => false
theorem sign_lt (a b : Nat) : decide ((⟨#[a]⟩ : Str).cps.toList < (⟨#[b]⟩ : Str).cps.toList) = decide (a < b) := by
  rw [Bool.eq_iff_iff, decide_eq_true_iff, decide_eq_true_iff]
  show List.Lex (· < ·) [a] [b] ↔ a < b
  constructor
  · intro h
    cases h with
    | rel h => exact h
    | cons h => cases h
  · exact fun h => .rel h

abbrev s_iswhole : Stmt := topS 6
abbrev n_iswhole : List Str := ["thing"]
theorem sc_iswhole : FnScope n_iswhole ["thing"] (defScope s_iswhole) := ⟨rfl, rfl, rfl, by decide +kernel, rfl, by decide +kernel, by decide +kernel⟩
def G_is_whole : DSp := fun as T Q _ => match as with
  | [.d x] => Q (.d (.bool (isWholeD x))) T
  | _ => False
section
variable {P : Program} {w : World} {K : PySem.W.Frag} {mg : Str → Option Value} {base : Heap}
theorem ok_iswhole {f : Addr} {fd : FuncData} {k : Nat} {tb : List Addr} (F : Fun K "is_whole" "is_whole" s_iswhole f fd) (m_bool : mg "bool" = none) (m_int : mg "int" = none) (m_isinstance : mg "isinstance" = none) : FnOk P w K mg base (L2.CX P w) (k + 1) f fd ["thing"] (spF K tb (G_is_whole)) := by
  refine fnd F sc_iswhole (fun as T Q E h => ?_) (fun cdv A outer s H E hr => ⟨_, (pssd_one (psd_ret (pd_and (pd_isi ki_int (by rfl) m_isinstance (by rfl) m_int (by decide +kernel) (pk_var (pv 0))) (pd_one (pd_not (pd_isi ki_bool (by rfl) m_isinstance (by rfl) m_bool (by decide +kernel) (pk_var (pv 0)))))))), fun as T Qh Eh h => ?_⟩)
  · unfold G_is_whole at h
    split at h
    · rfl
    · exact h.elim
  · unfold G_is_whole at h
    split at h
    · rename_i x
      cases x <;> exact h
    · exact h.elim

end
abbrev s_iswholewithin : Stmt := topS 7
abbrev n_iswholewithin : List Str := ["thing", "least", "most"]
theorem sc_iswholewithin : FnScope n_iswholewithin ["thing", "least", "most"] (defScope s_iswholewithin) := ⟨rfl, rfl, rfl, by decide +kernel, rfl, by decide +kernel, by decide +kernel⟩
def G_is_whole_within : DSp := fun as T Q _ => match as with
  | [.d x, .d (.int a), .d (.int b)] => Q (.d (.bool (withinD a b x))) T
  | _ => False
section
variable {P : Program} {w : World} {K : PySem.W.Frag} {mg : Str → Option Value} {base : Heap}
theorem ok_iswholewithin {f : Addr} {fd : FuncData} {k : Nat} {tb : List Addr} (F : Fun K "is_whole_within" "is_whole_within" s_iswholewithin f fd) (A_is_whole : AtD P w K mg base k tb "is_whole" ["thing"] (G_is_whole)) : FnOk P w K mg base (L2.CX P w) (k + 1) f fd ["thing", "least", "most"] (spF K tb (G_is_whole_within)) := by
  refine fnd F sc_iswholewithin (fun as T Q E h => ?_) (fun cdv A outer s H E hr => ⟨_, (pssd_one (psd_ret (pd_and (pd_call A_is_whole hr (by rfl) (pad_cons (pd_var (pv 0)) pad_nil)) (pd_one (pd_chain opd_le opd_le (pk_var (pv 1)) (pk_var (pv 0)) (pk_var (pv 2))))))), fun as T Qh Eh h => ?_⟩)
  · unfold G_is_whole_within at h
    split at h
    · rfl
    · exact h.elim
  · unfold G_is_whole_within at h
    split at h
    · rename_i x a b
      cases x with
      | int i => exact and_q h
      | _ => exact h
    · exact h.elim

end
abbrev s_issmallletter : Stmt := topS 8
abbrev n_issmallletter : List Str := ["sign"]
theorem sc_issmallletter : FnScope n_issmallletter ["sign"] (defScope s_issmallletter) := ⟨rfl, rfl, rfl, by decide +kernel, rfl, by decide +kernel, by decide +kernel⟩
def G_is_small_letter : DSp := fun as T Q _ => match as with
  | [.d (.str z)] => ∃ c, z = ⟨#[c]⟩ ∧ Q (.d (.bool (isL c))) T
  | _ => False
section
variable {P : Program} {w : World} {K : PySem.W.Frag} {mg : Str → Option Value} {base : Heap}
theorem ok_issmallletter {f : Addr} {fd : FuncData} {k : Nat} {tb : List Addr} (F : Fun K "is_small_letter" "is_small_letter" s_issmallletter f fd) : FnOk P w K mg base (L2.CX P w) (k + 1) f fd ["sign"] (spF K tb (G_is_small_letter)) := by
  refine fnd F sc_issmallletter (fun as T Q E h => ?_) (fun cdv A outer s H E hr => ⟨_, (pssd_one (psd_ret (pd_chain opd_le opd_le (PD.k pd_str) (pk_var (pv 0)) (PD.k pd_str)))), fun as T Qh Eh h => ?_⟩)
  · unfold G_is_small_letter at h
    split at h
    · rfl
    · exact h.elim
  · unfold G_is_small_letter at h
    split at h
    · rename_i z
      obtain ⟨c, rfl, h⟩ := h
      have e1 : (!decide ((⟨#[c]⟩ : Str).cps.toList < (⟨#[97]⟩ : Str).cps.toList)) = decide (97 ≤ c) := by
        rw [sign_lt, Bool.eq_iff_iff]
        simp
      have e2 : (!decide ((⟨#[122]⟩ : Str).cps.toList < (⟨#[c]⟩ : Str).cps.toList)) = decide (c ≤ 122) := by
        rw [sign_lt, Bool.eq_iff_iff]
        simp
      refine and_q (b := !decide ((⟨#[c]⟩ : Str).cps.toList < (⟨#[97]⟩ : Str).cps.toList)) (c := !decide ((⟨#[122]⟩ : Str).cps.toList < (⟨#[c]⟩ : Str).cps.toList)) ?_
      rw [e1, e2]
      exact h
    · exact h.elim

end
abbrev s_isword : Stmt := topS 9
abbrev n_isword : List Str := ["thing", "most", "sign"]
theorem sc_isword : FnScope n_isword ["thing", "most"] (defScope s_isword) := ⟨rfl, rfl, rfl, by decide +kernel, rfl, by decide +kernel, by decide +kernel⟩
def G_is_word : DSp := fun as T Q _ => match as with
  | [.d x, .d (.int m)] => Q (.d (.bool (isWordD m x))) T
  | _ => False
section
variable {P : Program} {w : World} {K : PySem.W.Frag} {mg : Str → Option Value} {base : Heap}
theorem ok_isword {f c Pt : Addr} {fd : FuncData} {k : Nat} {tb : List Addr} (F : FunC K "is_word" "is_word" s_isword f c fd) (TB : GxR.TabB base mg c Pt) (hP : Pt ∈ tb) (A_is_small_letter : AtD P w K mg base k tb "is_small_letter" ["sign"] (G_is_small_letter)) (m_all : mg "all" = none) (m_isinstance : mg "isinstance" = none) (m_len : mg "len" = none) (m_str : mg "str" = none) : FnOk P w K mg base (L2.CX P w) (k + 2) f fd ["thing", "most"] (spF K tb (G_is_word)) := by
  refine fndC F sc_isword (fun as T Q E h => ?_) (fun A outer s H E hr => ⟨_, (pssd_cons (psd_if (PWd.pt (pwd_or (ptd_not (ptd_tru (PD.k (pd_isi ki_str (by rfl) m_isinstance (by rfl) m_str (by decide +kernel) (pk_var (pv 0)))))) (pwd_or1 (ptd_not (ptd_chain opd_le opd_le (PD.k pd_int) (PD.k (pd_b1 cad_len (by rfl) m_len PySem.boot_len (pk_var (pv 0)))) (pk_var (pv 1))))))) (pssd_one (psd_ret pd_bl)) pssd_nil)
      (pssd_one (psd_ret (pd_all (own := [("sign", 2)]) (γ := (gdName 2)) (te := (dCall (fun _ => False) G_is_small_letter (dCons (dVar 2) dNil))) (f := (iS (dVar 0))) hr (by rfl) m_all (by decide +kernel) TB hP rfl (show Gx.GenN n_isword (defScope s_isword) _ [("sign", 2)] from ⟨rfl, rfl, by decide +kernel, rfl, by decide +kernel, by decide +kernel, by decide +kernel, by decide +kernel⟩) sc_isword.nd (pid_str (pd_var (pv 0))) (fun _ _ _ _ _ _ => (PGd.y (pgd_name (i := 2) sc_isword.nd rfl (.inl rfl)))) (fun _ _ _ _ _ _ hr' => (pd_call A_is_small_letter hr' (by rfl) (pad_cons (pd_var (pv 2)) pad_nil))) (fun _ => rfl))))), fun as T Qh Eh h => ?_⟩)
  · unfold G_is_word at h
    split at h
    · rfl
    · exact h.elim
  · unfold G_is_word at h
    split at h
    · rename_i x m
      cases x with
      | str z =>
        have h' : Qh (.d (.bool (decide (1 ≤ (z.length : Int)) && (decide ((z.length : Int) ≤ m) && z.cps.toList.all isL)))) T := h
        have al : ((List.range (signs z).length).all fun j => isL (z.cps.toList.getD j 0)) = z.cps.toList.all isL := by
          unfold signs
          rw [List.length_map]
          exact all_range z.cps.toList isL 0
        have tail : Qh (.d (.bool (z.cps.toList.all isL))) T → dRet (dAll [2] (iS (dVar 0)) (gdName 2) (dCall (fun _ => False) G_is_small_letter (dCons (dVar 2) dNil))) (startE n_isword [.d (.str z), .d (.int m)]) T { nx := fun _ T' => Qh (.d .none) T', rt := Qh } := fun q => by
          refine ⟨fun j => isL (z.cps.toList.getD j 0), fun j x hx => ?_, ?_⟩
          · unfold signs at hx
            rw [List.getElem?_map] at hx
            cases e : z.cps.toList[j]? with
            | none =>
              rw [e] at hx
              cases hx
            | some c =>
              rw [e] at hx
              cases hx
              refine ⟨c, rfl, ?_, rfl⟩
              show PyData.bool (isL c) = PyData.bool (isL (z.cps.toList.getD j 0))
              rw [List.getD_eq_getElem?_getD, e]
              rfl
          · rw [al]
            exact q
        refine dif (fun e1 => dif (fun e2 => ?_) (fun e2 => tail ?_)) (fun e1 => ?_)
        · rw [e1, nT e2] at h'
          exact h'
        · rw [e1, nF e2] at h'
          exact h'
        · rw [e1] at h'
          exact h'
      | _ => exact h
    · exact h.elim

end
end Dv
set_option Elab.async false
set_option linter.all false
set_option maxRecDepth 100000
set_option maxHeartbeats 1000000
namespace Dv
open PySem PySem.Spec PyProof.Rows L2
def strOf : PyData → Str
  | .str z => z
  | _ => ""
def unlikeD (cs : List PyData) : Bool := cs.all (isWordD 4) && decide ((cs.map strOf).Nodup)
def isSortD : PyData → Bool
  | .tuple [n, .tuple cs] => isWordD 8 n && (decide (2 ≤ (cs.length : Int)) && (decide ((cs.length : Int) ≤ 6) && unlikeD cs))
  | _ => false
theorem word_str {m : Int} {d : PyData} (h : isWordD m d = true) : isStr d = true := by
  cases d with
  | str z => rfl
  | _ => cases h
theorem words_str {m : Int} {ds : List PyData} (h : ds.all (isWordD m) = true) : ds.all isStr = true := by
  rw [List.all_eq_true] at h ⊢
  exact fun d hd => word_str (h d hd)

abbrev s_istupleof : Stmt := topS 10
abbrev n_istupleof : List Str := ["thing", "many"]
theorem sc_istupleof : FnScope n_istupleof ["thing", "many"] (defScope s_istupleof) := ⟨rfl, rfl, rfl, by decide +kernel, rfl, by decide +kernel, by decide +kernel⟩
def G_is_tuple_of : DSp := fun as T Q _ => match as with
  | [.d x, .d (.int n)] => Q (.d (.bool (isTof n x))) T
  | _ => False
section
variable {P : Program} {w : World} {K : PySem.W.Frag} {mg : Str → Option Value} {base : Heap}
theorem ok_istupleof {f : Addr} {fd : FuncData} {k : Nat} {tb : List Addr} (F : Fun K "is_tuple_of" "is_tuple_of" s_istupleof f fd) (m_isinstance : mg "isinstance" = none) (m_len : mg "len" = none) (m_tuple : mg "tuple" = none) : FnOk P w K mg base (L2.CX P w) (k + 1) f fd ["thing", "many"] (spF K tb (G_is_tuple_of)) := by
  refine fnd F sc_istupleof (fun as T Q E h => ?_) (fun cdv A outer s H E hr => ⟨_, (pssd_one (psd_ret (pd_and (pd_isi ki_tuple (by rfl) m_isinstance (by rfl) m_tuple (by decide +kernel) (pk_var (pv 0))) (pd_one (pd_cmp (opd_eq hr.units) (PD.k (pd_b1 cad_len (by rfl) m_len PySem.boot_len (pk_var (pv 0)))) (pk_var (pv 1)) (nomark _)))))), fun as T Qh Eh h => ?_⟩)
  · unfold G_is_tuple_of at h
    split at h
    · rfl
    · exact h.elim
  · unfold G_is_tuple_of at h
    split at h
    · rename_i x n
      cases x with
      | tuple ds =>
        show optQ (eqD (.int ds.length) (.int n)) T fun z T' => Qh (.d z) T'
        rw [eqD_int]
        exact h
      | _ => exact h
    · exact h.elim

end
abbrev s_isname : Stmt := topS 14
abbrev n_isname : List Str := ["thing"]
theorem sc_isname : FnScope n_isname ["thing"] (defScope s_isname) := ⟨rfl, rfl, rfl, by decide +kernel, rfl, by decide +kernel, by decide +kernel⟩
def G_is_name : DSp := fun as T Q _ => match as with
  | [.d x] => Q (.d (.bool (isWordD 8 x))) T
  | _ => False
section
variable {P : Program} {w : World} {K : PySem.W.Frag} {mg : Str → Option Value} {base : Heap}
theorem ok_isname {f : Addr} {fd : FuncData} {k : Nat} {tb : List Addr} (F : Fun K "is_name" "is_name" s_isname f fd) (A_is_word : AtD P w K mg base k tb "is_word" ["thing", "most"] (G_is_word)) {t_MOST_NAME : Tok} (mc_MOST_NAME : mg "MOST_NAME" = some (.int 8 t_MOST_NAME)) : FnOk P w K mg base (L2.CX P w) (k + 1) f fd ["thing"] (spF K tb (G_is_name)) := by
  refine fnd F sc_isname (fun as T Q E h => ?_) (fun cdv A outer s H E hr => ⟨_, (pssd_one (psd_ret (pd_call A_is_word hr (by rfl) (pad_cons (pd_var (pv 0)) (pad_cons (pd_glob (by rfl) mc_MOST_NAME) pad_nil))))), fun as T Qh Eh h => ?_⟩)
  · unfold G_is_name at h
    split at h
    · rfl
    · exact h.elim
  · unfold G_is_name at h
    split at h
    · exact h
    · exact h.elim

end
abbrev n_iscode : List Str := ["thing"]
def G_is_code : DSp := fun as T Q _ => match as with
  | [.d x] => Q (.d (.bool (isWordD 4 x))) T
  | _ => False
section
variable {P : Program} {w : World} {K : PySem.W.Frag} {mg : Str → Option Value} {base : Heap}
end
abbrev n_areunlikecodes : List Str := ["things", "thing"]
def G_are_unlike_codes : DSp := fun as T Q _ => match as with
  | [.d (.tuple ds)] => ds.length ≤ 1000 ∧ Q (.d (.bool (unlikeD ds))) T
  | _ => False
section
variable {P : Program} {w : World} {K : PySem.W.Frag} {mg : Str → Option Value} {base : Heap}
end
abbrev n_issort : List Str := ["thing", "name", "codes"]
def G_is_sort : DSp := fun as T Q _ => match as with
  | [.d x] => Q (.d (.bool (isSortD x))) T
  | _ => False
section
variable {P : Program} {w : World} {K : PySem.W.Frag} {mg : Str → Option Value} {base : Heap}
end
end Dv
set_option Elab.async false
set_option linter.all false
set_option maxRecDepth 100000
set_option maxHeartbeats 1000000
namespace Dv
open PySem PySem.Spec PyProof.Rows L2
def isLof (n : Int) : PyData → Bool
  | .list ds => decide ((ds.length : Int) = n)
  | _ => false
/-- a thing that may be a market, by its form -/
def mkForm : PyData → Bool
  | .tuple [_, .list ps, .list qs] => decide ((qs.length : Int) = (ps.length : Int)) && (decide (1 ≤ (ps.length : Int)) && decide ((ps.length : Int) ≤ 24))
  | _ => false
def nameD (ds : List PyData) : Bool := ds.all (isWordD 8) && decide ((ds.map strOf).Nodup)
def goodsD : PyData → Bool
  | .tuple ds => decide (1 ≤ (ds.length : Int)) && (decide ((ds.length : Int) ≤ 8) && nameD ds)
  | _ => false
def lineD (lo n : Int) : PyData → Bool
  | .list ds => decide ((ds.length : Int) = n) && ds.all (withinD lo 1000000)
  | _ => false
def dotD (ps qs : List Int) : Int := ((List.range ps.length).map fun j => ps.getD j 0 * qs.getD j 0).sum
theorem pre_sum (val : Nat → Int) : ∀ n, preSum val n = ((List.range n).map val).sum
  | 0 => rfl
  | n + 1 => by
    rw [List.range_succ, List.map_append, List.sum_append, ← pre_sum val n]
    show preSum val n + val n = _
    simp
theorem mk_tof {x : PyData} (h : mkForm x = true) : isTof 3 x = true := by
  unfold mkForm at h
  split at h
  · rfl
  · cases h
theorem len_tup3 {ds : List PyData} (h : (ds.length : Int) = 3) : ∃ a b c, ds = [a, b, c] := by
  match ds, h with
  | [a, b, c], _ => exact ⟨a, b, c, rfl⟩

abbrev s_islistof : Stmt := topS 11
abbrev n_islistof : List Str := ["thing", "many"]
theorem sc_islistof : FnScope n_islistof ["thing", "many"] (defScope s_islistof) := ⟨rfl, rfl, rfl, by decide +kernel, rfl, by decide +kernel, by decide +kernel⟩
def G_is_list_of : DSp := fun as T Q _ => match as with
  | [.d x, .d (.int n)] => Q (.d (.bool (isLof n x))) T
  | _ => False
section
variable {P : Program} {w : World} {K : PySem.W.Frag} {mg : Str → Option Value} {base : Heap}
theorem ok_islistof {f : Addr} {fd : FuncData} {k : Nat} {tb : List Addr} (F : Fun K "is_list_of" "is_list_of" s_islistof f fd) (m_isinstance : mg "isinstance" = none) (m_len : mg "len" = none) (m_list : mg "list" = none) : FnOk P w K mg base (L2.CX P w) (k + 1) f fd ["thing", "many"] (spF K tb (G_is_list_of)) := by
  refine fnd F sc_islistof (fun as T Q E h => ?_) (fun cdv A outer s H E hr => ⟨_, (pssd_one (psd_ret (pd_and (pd_isi ki_list (by rfl) m_isinstance (by rfl) m_list (by decide +kernel) (pk_var (pv 0))) (pd_one (pd_cmp (opd_eq hr.units) (PD.k (pd_b1 cad_len (by rfl) m_len PySem.boot_len (pk_var (pv 0)))) (pk_var (pv 1)) (nomark _)))))), fun as T Qh Eh h => ?_⟩)
  · unfold G_is_list_of at h
    split at h
    · rfl
    · exact h.elim
  · unfold G_is_list_of at h
    split at h
    · rename_i x n
      cases x with
      | list ds =>
        show optQ (eqD (.int ds.length) (.int n)) T fun z T' => Qh (.d z) T'
        rw [eqD_int]
        exact h
      | _ => exact h
    · exact h.elim

end
abbrev s_cometoat : Stmt := topS 32
abbrev n_cometoat : List Str := ["prices", "amounts", "price", "amount"]
theorem sc_cometoat : FnScope n_cometoat ["prices", "amounts"] (defScope s_cometoat) := ⟨rfl, rfl, rfl, by decide +kernel, rfl, by decide +kernel, by decide +kernel⟩
def G_come_to_at : DSp := fun as T Q _ => match as with
  | [.d x, .d y] => ∃ ps qs : List Int, x = .list (ps.map PyData.int) ∧ y = .list (qs.map PyData.int) ∧ ps.length = qs.length ∧ (∀ p ∈ ps, p.natAbs ≤ 1000000000000) ∧ (∀ q ∈ qs, q.natAbs ≤ 1000000000000) ∧ Q (.d (.int (dotD ps qs))) T
  | _ => False
section
variable {P : Program} {w : World} {K : PySem.W.Frag} {mg : Str → Option Value} {base : Heap}
theorem ok_cometoat {f c Pt : Addr} {fd : FuncData} {k : Nat} {tb : List Addr} (F : FunC K "come_to_at" "come_to_at" s_cometoat f c fd) (TB : GxR.TabB base mg c Pt) (hP : Pt ∈ tb) (m_sum : mg "sum" = none) (m_zip : mg "zip" = none) : FnOk P w K mg base (L2.CX P w) (k + 2) f fd ["prices", "amounts"] (spF K tb (G_come_to_at)) := by
  refine fndC F sc_cometoat (fun as T Q E h => ?_) (fun A outer s H E hr => ⟨_, (pssd_one (psd_ret (pd_sumG (own := [("price", 2), ("amount", 3)]) (γ := (gdTup 2 (gdCons (gdName 2) (gdCons (gdName 3) gdNil)))) (te := (dOp mulD (dVarK 2) (dVarK 3))) (f := (iZ (dVar 0) (dVar 1))) hr (by rfl) m_sum (by decide +kernel) TB hP rfl (show Gx.GenN n_cometoat (defScope s_cometoat) _ [("price", 2), ("amount", 3)] from ⟨rfl, rfl, by decide +kernel, rfl, by decide +kernel, by decide +kernel, by decide +kernel, by decide +kernel⟩) sc_cometoat.nd (pid_zip (by rfl) m_zip (pd_var (pv 0)) (pd_var (pv 1))) (fun _ _ _ _ _ _ => (pgy_tup (n := 2) rfl (pgsd_cons (pgd_name (i := 2) sc_cometoat.nd rfl (.inl rfl)) (pgsd_cons (pgd_name (i := 3) sc_cometoat.nd rfl (.inl rfl)) pgsd_nil)))) (fun _ _ _ _ _ _ hr' => (pd_op opd_mul (pk_var (pv 2)) (pk_var (pv 3)))) (fun _ => rfl)))), fun as T Qh Eh h => ?_⟩)
  · unfold G_come_to_at at h
    split at h
    · rfl
    · exact h.elim
  · unfold G_come_to_at at h
    split at h
    · rename_i x y
      obtain ⟨ps, qs, rfl, rfl, hl, hp, hq, h⟩ := h
      rw [show ∀ a0 a1, startE n_cometoat [a0, a1] = [a0, a1, .no, .no] from fun _ _ => rfl]
      unfold dSumG
      try simp only [dIsNv, dRevO, dPar, dPar3, dTryB, bSeq, bIf, bCall, bNil, dAug, iR3, dMod0, xStar, dRepO, dExcA, dTryK, dIsx, lose, loseV, dSeq, dRet, dRetN, dIfS, dTst, dTru, dOp, dVar, dVarK, dC, dChain, dNot, dAnd, dOr, dAndE, dOrE, dNotE, dBoolE, dIf, dFn, dB, dTup, dLst, dO, xNil, xCons, dNext, dSet, dSetO, dRel, relE, dExpr, dCall, dCallO, dCons, dNil, dPurA, dAsg, gdName, gdNil, gdCons, gdTup, dForS, dCut, dCutO, dNoP, dPart, dCatO, dListO, dLc, wipeE, dApp, dIns, dSetIx, dRaise, dRetO, dRetOE, dCount, dRev, iL, iT, iS, iR1, iR2, iEL, iET, iZ, dYes, s_tb, s_tn, s_ti, s_tl, s_tt, s_dd, s_do, s_ll, s_lt, s_ls, s_ul, s_ut, s_isStr_none, s_isStr_bool, s_isStr_int, s_isStr_str, s_isStr_list, s_isStr_tuple, s_isTup_none, s_isTup_bool, s_isTup_int, s_isTup_str, s_isTup_list, s_isTup_tuple, s_isLst_none, s_isLst_bool, s_isLst_int, s_isLst_str, s_isLst_list, s_isLst_tuple, s_isInt_none, s_isInt_bool, s_isInt_int, s_isInt_str, s_isInt_list, s_isInt_tuple, s_isBool_none, s_isBool_bool, s_isBool_int, s_isBool_str, s_isBool_list, s_isBool_tuple, s_isN_none, s_isN_bool, s_isN_int, s_isN_str, s_isN_list, s_isN_tuple, s_is, s_isnt, s_xl, s_xt, s_xs, s_cl, s_ct, s_cs, s_add, s_sub, s_lti, s_lei, s_gti, s_gei, s_min, s_max, s_neg, s_abs, s_os, at0, at1, at2, eqD_int, neD_int, List.getElem?_cons_zero, List.getElem?_cons_succ, List.set_cons_zero, List.set_cons_succ, List.map_cons, List.map_nil, Bool.false_eq_true, Bool.not_true, Bool.not_false, ite_true, ite_false, if_true, if_false, true_and, and_true]
      refine ⟨fun j => ps.getD j 0 * qs.getD j 0, fun j x hx => ?_, ?_⟩
      · have hj : j < ps.length := by
          have := (List.getElem?_eq_some_iff.mp hx).1
          rw [zip_len, List.length_map, List.length_map] at this
          omega
        have e1 : ps[j]? = some ps[j] := List.getElem?_eq_getElem hj
        have e2 : qs[j]? = some qs[j] := List.getElem?_eq_getElem (by omega)
        rw [zip_get (x := .int ps[j]) (y := .int qs[j]) (by rw [List.getElem?_map, e1]; rfl) (by rw [List.getElem?_map, e2]; rfl)] at hx
        cases hx
        have g1 : ps.getD j 0 = ps[j] := by rw [List.getD_eq_getElem?_getD, e1]; rfl
        have g2 : qs.getD j 0 = qs[j] := by rw [List.getD_eq_getElem?_getD, e2]; rfl
        refine ⟨rfl, ?_⟩
        try simp only [dIsNv, dRevO, dPar, dPar3, dTryB, bSeq, bIf, bCall, bNil, dAug, iR3, dMod0, xStar, dRepO, dExcA, dTryK, dIsx, lose, loseV, dSeq, dRet, dRetN, dIfS, dTst, dTru, dOp, dVar, dVarK, dC, dChain, dNot, dAnd, dOr, dAndE, dOrE, dNotE, dBoolE, dIf, dFn, dB, dTup, dLst, dO, xNil, xCons, dNext, dSet, dSetO, dRel, relE, dExpr, dCall, dCallO, dCons, dNil, dPurA, dAsg, gdName, gdNil, gdCons, gdTup, dForS, dCut, dCutO, dNoP, dPart, dCatO, dListO, dLc, wipeE, dApp, dIns, dSetIx, dRaise, dRetO, dRetOE, dCount, dRev, iL, iT, iS, iR1, iR2, iEL, iET, iZ, dYes, s_tb, s_tn, s_ti, s_tl, s_tt, s_dd, s_do, s_ll, s_lt, s_ls, s_ul, s_ut, s_isStr_none, s_isStr_bool, s_isStr_int, s_isStr_str, s_isStr_list, s_isStr_tuple, s_isTup_none, s_isTup_bool, s_isTup_int, s_isTup_str, s_isTup_list, s_isTup_tuple, s_isLst_none, s_isLst_bool, s_isLst_int, s_isLst_str, s_isLst_list, s_isLst_tuple, s_isInt_none, s_isInt_bool, s_isInt_int, s_isInt_str, s_isInt_list, s_isInt_tuple, s_isBool_none, s_isBool_bool, s_isBool_int, s_isBool_str, s_isBool_list, s_isBool_tuple, s_isN_none, s_isN_bool, s_isN_int, s_isN_str, s_isN_list, s_isN_tuple, s_is, s_isnt, s_xl, s_xt, s_xs, s_cl, s_ct, s_cs, s_add, s_sub, s_lti, s_lei, s_gti, s_gei, s_min, s_max, s_neg, s_abs, s_os, at0, at1, at2, eqD_int, neD_int, List.getElem?_cons_zero, List.getElem?_cons_succ, List.set_cons_zero, List.set_cons_succ, List.map_cons, List.map_nil, Bool.false_eq_true, Bool.not_true, Bool.not_false, ite_true, ite_false, if_true, if_false, true_and, and_true]
        refine q_mul (small8 (hp _ (List.getElem_mem hj))) (small8 (hq _ (List.getElem_mem (by omega)))) ?_
        rw [g1, g2]
        exact ⟨rfl, rfl⟩
      · rw [zip_len, List.length_map, List.length_map, ← hl, Nat.min_self, pre_sum]
        exact h
    · exact h.elim

end
abbrev s_ismarketbyform : Stmt := topS 25
abbrev n_ismarketbyform : List Str := ["thing"]
theorem sc_ismarketbyform : FnScope n_ismarketbyform ["thing"] (defScope s_ismarketbyform) := ⟨rfl, rfl, rfl, by decide +kernel, rfl, by decide +kernel, by decide +kernel⟩
def G_is_market_by_form : DSp := fun as T Q _ => match as with
  | [.d x] => Q (.d (.bool (mkForm x))) T
  | _ => False
section
variable {P : Program} {w : World} {K : PySem.W.Frag} {mg : Str → Option Value} {base : Heap}
theorem ok_ismarketbyform {f : Addr} {fd : FuncData} {k : Nat} {tb : List Addr} (F : Fun K "is_market_by_form" "is_market_by_form" s_ismarketbyform f fd) (A_is_list_of : AtD P w K mg base k tb "is_list_of" ["thing", "many"] (G_is_list_of)) (A_is_tuple_of : AtD P w K mg base k tb "is_tuple_of" ["thing", "many"] (G_is_tuple_of)) (m_isinstance : mg "isinstance" = none) (m_len : mg "len" = none) (m_list : mg "list" = none) {t_MOST_TIMES : Tok} (mc_MOST_TIMES : mg "MOST_TIMES" = some (.int 24 t_MOST_TIMES)) : FnOk P w K mg base (L2.CX P w) (k + 1) f fd ["thing"] (spF K tb (G_is_market_by_form)) := by
  refine fnd F sc_ismarketbyform (fun as T Q E h => ?_) (fun cdv A outer s H E hr => ⟨_, (pssd_cons (psd_if (PWd.pt (pwd_or (ptd_not (ptd_tru (PD.k (pd_call A_is_tuple_of hr (by rfl) (pad_cons (pd_var (pv 0)) (pad_cons pd_int pad_nil)))))) (pwd_or (ptd_not (ptd_tru (PD.k (pd_isi ki_list (by rfl) m_isinstance (by rfl) m_list (by decide +kernel) (PD.k (pd_ix (pk_var (pv 0)) (PD.k pd_int) (fun _ _ => rfl))))))) (pwd_or1 (ptd_not (ptd_tru (PD.k (pd_call A_is_list_of hr (by rfl) (pad_cons (pd_ix (pk_var (pv 0)) (PD.k pd_int) (fun _ _ => rfl)) (pad_cons (pd_b1 cad_len (by rfl) m_len PySem.boot_len (PD.k (pd_ix (pk_var (pv 0)) (PD.k pd_int) (fun _ _ => rfl)))) pad_nil)))))))))) (pssd_one (psd_ret pd_bl)) pssd_nil)
      (pssd_one (psd_ret (pd_chain opd_le opd_le (PD.k pd_int) (PD.k (pd_b1 cad_len (by rfl) m_len PySem.boot_len (PD.k (pd_ix (pk_var (pv 0)) (PD.k pd_int) (fun _ _ => rfl))))) (PD.k (pd_glob (by rfl) mc_MOST_TIMES)))))), fun as T Qh Eh h => ?_⟩)
  · unfold G_is_market_by_form at h
    split at h
    · rfl
    · exact h.elim
  · unfold G_is_market_by_form at h
    split at h
    · rename_i x
      rw [show ∀ a0, startE n_ismarketbyform [a0] = [a0] from fun _ => rfl]
      try simp only [dIsNv, dRevO, dPar, dPar3, dTryB, bSeq, bIf, bCall, bNil, dAug, iR3, dMod0, xStar, dRepO, dExcA, dTryK, dIsx, lose, loseV, dSeq, dRet, dRetN, dIfS, dTst, dTru, dOp, dVar, dVarK, dC, dChain, dNot, dAnd, dOr, dAndE, dOrE, dNotE, dBoolE, dIf, dFn, dB, dTup, dLst, dO, xNil, xCons, dNext, dSet, dSetO, dRel, relE, dExpr, dCall, dCallO, dCons, dNil, dPurA, dAsg, gdName, gdNil, gdCons, gdTup, dForS, dCut, dCutO, dNoP, dPart, dCatO, dListO, dLc, wipeE, dApp, dIns, dSetIx, dRaise, dRetO, dRetOE, dCount, dRev, iL, iT, iS, iR1, iR2, iEL, iET, iZ, dYes, s_tb, s_tn, s_ti, s_tl, s_tt, s_dd, s_do, s_ll, s_lt, s_ls, s_ul, s_ut, s_isStr_none, s_isStr_bool, s_isStr_int, s_isStr_str, s_isStr_list, s_isStr_tuple, s_isTup_none, s_isTup_bool, s_isTup_int, s_isTup_str, s_isTup_list, s_isTup_tuple, s_isLst_none, s_isLst_bool, s_isLst_int, s_isLst_str, s_isLst_list, s_isLst_tuple, s_isInt_none, s_isInt_bool, s_isInt_int, s_isInt_str, s_isInt_list, s_isInt_tuple, s_isBool_none, s_isBool_bool, s_isBool_int, s_isBool_str, s_isBool_list, s_isBool_tuple, s_isN_none, s_isN_bool, s_isN_int, s_isN_str, s_isN_list, s_isN_tuple, s_is, s_isnt, s_xl, s_xt, s_xs, s_cl, s_ct, s_cs, s_add, s_sub, s_lti, s_lei, s_gti, s_gei, s_min, s_max, s_neg, s_abs, s_os, at0, at1, at2, eqD_int, neD_int, List.getElem?_cons_zero, List.getElem?_cons_succ, List.set_cons_zero, List.set_cons_succ, List.map_cons, List.map_nil, Bool.false_eq_true, Bool.not_true, Bool.not_false, ite_true, ite_false, if_true, if_false, true_and, and_true]
      refine dif (fun e => ?_) (fun e => ?_)
      · have e2 : mkForm x = false := by
          cases hm : mkForm x with
          | false => rfl
          | true =>
            have e9 : isTof 3 x = false := nT e
            rw [mk_tof hm] at e9
            cases e9
        rw [e2] at h
        exact h
      have e1 : isTof 3 x = true := nF e
      obtain ⟨ds, rfl⟩ : ∃ ds, x = .tuple ds := by
        cases x with
        | tuple ds => exact ⟨ds, rfl⟩
        | _ => cases e1
      obtain ⟨a, b, c, rfl⟩ := len_tup3 (of_decide_eq_true e1)
      try simp only [dIsNv, dRevO, dPar, dPar3, dTryB, bSeq, bIf, bCall, bNil, dAug, iR3, dMod0, xStar, dRepO, dExcA, dTryK, dIsx, lose, loseV, dSeq, dRet, dRetN, dIfS, dTst, dTru, dOp, dVar, dVarK, dC, dChain, dNot, dAnd, dOr, dAndE, dOrE, dNotE, dBoolE, dIf, dFn, dB, dTup, dLst, dO, xNil, xCons, dNext, dSet, dSetO, dRel, relE, dExpr, dCall, dCallO, dCons, dNil, dPurA, dAsg, gdName, gdNil, gdCons, gdTup, dForS, dCut, dCutO, dNoP, dPart, dCatO, dListO, dLc, wipeE, dApp, dIns, dSetIx, dRaise, dRetO, dRetOE, dCount, dRev, iL, iT, iS, iR1, iR2, iEL, iET, iZ, dYes, s_tb, s_tn, s_ti, s_tl, s_tt, s_dd, s_do, s_ll, s_lt, s_ls, s_ul, s_ut, s_isStr_none, s_isStr_bool, s_isStr_int, s_isStr_str, s_isStr_list, s_isStr_tuple, s_isTup_none, s_isTup_bool, s_isTup_int, s_isTup_str, s_isTup_list, s_isTup_tuple, s_isLst_none, s_isLst_bool, s_isLst_int, s_isLst_str, s_isLst_list, s_isLst_tuple, s_isInt_none, s_isInt_bool, s_isInt_int, s_isInt_str, s_isInt_list, s_isInt_tuple, s_isBool_none, s_isBool_bool, s_isBool_int, s_isBool_str, s_isBool_list, s_isBool_tuple, s_isN_none, s_isN_bool, s_isN_int, s_isN_str, s_isN_list, s_isN_tuple, s_is, s_isnt, s_xl, s_xt, s_xs, s_cl, s_ct, s_cs, s_add, s_sub, s_lti, s_lei, s_gti, s_gei, s_min, s_max, s_neg, s_abs, s_os, at0, at1, at2, eqD_int, neD_int, List.getElem?_cons_zero, List.getElem?_cons_succ, List.set_cons_zero, List.set_cons_succ, List.map_cons, List.map_nil, Bool.false_eq_true, Bool.not_true, Bool.not_false, ite_true, ite_false, if_true, if_false, true_and, and_true]
      cases b with
      | list ps =>
        try simp only [dIsNv, dRevO, dPar, dPar3, dTryB, bSeq, bIf, bCall, bNil, dAug, iR3, dMod0, xStar, dRepO, dExcA, dTryK, dIsx, lose, loseV, dSeq, dRet, dRetN, dIfS, dTst, dTru, dOp, dVar, dVarK, dC, dChain, dNot, dAnd, dOr, dAndE, dOrE, dNotE, dBoolE, dIf, dFn, dB, dTup, dLst, dO, xNil, xCons, dNext, dSet, dSetO, dRel, relE, dExpr, dCall, dCallO, dCons, dNil, dPurA, dAsg, gdName, gdNil, gdCons, gdTup, dForS, dCut, dCutO, dNoP, dPart, dCatO, dListO, dLc, wipeE, dApp, dIns, dSetIx, dRaise, dRetO, dRetOE, dCount, dRev, iL, iT, iS, iR1, iR2, iEL, iET, iZ, dYes, s_tb, s_tn, s_ti, s_tl, s_tt, s_dd, s_do, s_ll, s_lt, s_ls, s_ul, s_ut, s_isStr_none, s_isStr_bool, s_isStr_int, s_isStr_str, s_isStr_list, s_isStr_tuple, s_isTup_none, s_isTup_bool, s_isTup_int, s_isTup_str, s_isTup_list, s_isTup_tuple, s_isLst_none, s_isLst_bool, s_isLst_int, s_isLst_str, s_isLst_list, s_isLst_tuple, s_isInt_none, s_isInt_bool, s_isInt_int, s_isInt_str, s_isInt_list, s_isInt_tuple, s_isBool_none, s_isBool_bool, s_isBool_int, s_isBool_str, s_isBool_list, s_isBool_tuple, s_isN_none, s_isN_bool, s_isN_int, s_isN_str, s_isN_list, s_isN_tuple, s_is, s_isnt, s_xl, s_xt, s_xs, s_cl, s_ct, s_cs, s_add, s_sub, s_lti, s_lei, s_gti, s_gei, s_min, s_max, s_neg, s_abs, s_os, at0, at1, at2, eqD_int, neD_int, List.getElem?_cons_zero, List.getElem?_cons_succ, List.set_cons_zero, List.set_cons_succ, List.map_cons, List.map_nil, Bool.false_eq_true, Bool.not_true, Bool.not_false, ite_true, ite_false, if_true, if_false, true_and, and_true]
        cases c with
        | list qs =>
          try simp only [dIsNv, dRevO, dPar, dPar3, dTryB, bSeq, bIf, bCall, bNil, dAug, iR3, dMod0, xStar, dRepO, dExcA, dTryK, dIsx, lose, loseV, dSeq, dRet, dRetN, dIfS, dTst, dTru, dOp, dVar, dVarK, dC, dChain, dNot, dAnd, dOr, dAndE, dOrE, dNotE, dBoolE, dIf, dFn, dB, dTup, dLst, dO, xNil, xCons, dNext, dSet, dSetO, dRel, relE, dExpr, dCall, dCallO, dCons, dNil, dPurA, dAsg, gdName, gdNil, gdCons, gdTup, dForS, dCut, dCutO, dNoP, dPart, dCatO, dListO, dLc, wipeE, dApp, dIns, dSetIx, dRaise, dRetO, dRetOE, dCount, dRev, iL, iT, iS, iR1, iR2, iEL, iET, iZ, dYes, s_tb, s_tn, s_ti, s_tl, s_tt, s_dd, s_do, s_ll, s_lt, s_ls, s_ul, s_ut, s_isStr_none, s_isStr_bool, s_isStr_int, s_isStr_str, s_isStr_list, s_isStr_tuple, s_isTup_none, s_isTup_bool, s_isTup_int, s_isTup_str, s_isTup_list, s_isTup_tuple, s_isLst_none, s_isLst_bool, s_isLst_int, s_isLst_str, s_isLst_list, s_isLst_tuple, s_isInt_none, s_isInt_bool, s_isInt_int, s_isInt_str, s_isInt_list, s_isInt_tuple, s_isBool_none, s_isBool_bool, s_isBool_int, s_isBool_str, s_isBool_list, s_isBool_tuple, s_isN_none, s_isN_bool, s_isN_int, s_isN_str, s_isN_list, s_isN_tuple, s_is, s_isnt, s_xl, s_xt, s_xs, s_cl, s_ct, s_cs, s_add, s_sub, s_lti, s_lei, s_gti, s_gei, s_min, s_max, s_neg, s_abs, s_os, at0, at1, at2, eqD_int, neD_int, List.getElem?_cons_zero, List.getElem?_cons_succ, List.set_cons_zero, List.set_cons_succ, List.map_cons, List.map_nil, Bool.false_eq_true, Bool.not_true, Bool.not_false, ite_true, ite_false, if_true, if_false, true_and, and_true]
          refine dif (fun e => ?_) (fun e => ?_)
          · have e3 : mkForm (.tuple [a, .list ps, .list qs]) = false := by
              have : isLof (ps.length : Int) (.list qs) = false := nT e
              show (decide _ && _) = false
              rw [show decide ((qs.length : Int) = (ps.length : Int)) = false from this]
              rfl
            rw [e3] at h
            exact h
          · have e3 : isLof (ps.length : Int) (.list qs) = true := nF e
            have e4 : mkForm (.tuple [a, .list ps, .list qs]) = (decide (1 ≤ (ps.length : Int)) && decide ((ps.length : Int) ≤ 24)) := by
              show (decide _ && _) = _
              rw [show decide ((qs.length : Int) = (ps.length : Int)) = true from e3]
              rfl
            rw [e4] at h
            exact and_q h
        | _ => exact h
      | _ => exact h
    · exact h.elim

end
end Dv
set_option Elab.async false
set_option linter.all false
set_option maxRecDepth 100000
set_option maxHeartbeats 1000000
namespace Dv
open PySem PySem.Spec PyProof.Rows L2
theorem word8_str {m : Int} {ds : List PyData} (h : ds.all (isWordD m) = true) : ds.all isStr = true := words_str h
def posD : PyData → Bool
  | .int i => decide (0 < i)
  | _ => false
def amtD (n : Int) : PyData → Bool
  | .list ds => lineD 0 n (.list ds) && ds.any posD
  | _ => false
theorem within_map {lo hi : Int} : ∀ {ds : List PyData}, ds.all (withinD lo hi) = true → ∃ ns : List Int, ds = ns.map PyData.int
  | [], _ => ⟨[], rfl⟩
  | d :: r, h => by
    rw [List.all_cons, Bool.and_eq_true] at h
    obtain ⟨ns, e⟩ := within_map h.2
    cases d with
    | int i => exact ⟨i :: ns, by rw [List.map_cons, e]⟩
    | _ => exact absurd h.1 (fun z => nomatch z)
theorem max_pos {ns : List Int} (h : ns ≠ []) : ∃ m, maxLD (.list (ns.map PyData.int)) = some (.int m) ∧ decide (m > 0) = (ns.map PyData.int).any posD := by
  obtain ⟨m, hm⟩ : ∃ m, ns.max? = some m := by
    cases e : ns.max? with
    | none => exact absurd (List.max?_eq_none_iff.mp e) h
    | some m => exact ⟨m, rfl⟩
  refine ⟨m, ?_, ?_⟩
  · show (intsOf _).bind _ = _
    rw [intsOf_map]
    show (ns.max?).map PyData.int = _
    rw [hm]
    rfl
  · have h2 := List.max?_eq_some_iff.mp hm
    rw [Bool.eq_iff_iff, decide_eq_true_iff, List.any_eq_true]
    constructor
    · intro g
      exact ⟨.int m, List.mem_map.mpr ⟨m, h2.1, rfl⟩, decide_eq_true g⟩
    · rintro ⟨d, hd, g⟩
      obtain ⟨n, hn, rfl⟩ := List.mem_map.mp hd
      have g' : 0 < n := of_decide_eq_true g
      have := h2.2 n hn
      omega

abbrev s_aregoods : Stmt := topS 26
abbrev n_aregoods : List Str := ["thing", "good"]
theorem sc_aregoods : FnScope n_aregoods ["thing"] (defScope s_aregoods) := ⟨rfl, rfl, rfl, by decide +kernel, rfl, by decide +kernel, by decide +kernel⟩
def G_are_goods : DSp := fun as T Q _ => match as with
  | [.d x] => Q (.d (.bool (goodsD x))) T
  | _ => False
section
variable {P : Program} {w : World} {K : PySem.W.Frag} {mg : Str → Option Value} {base : Heap}
theorem ok_aregoods {f c Pt : Addr} {fd : FuncData} {k : Nat} {tb : List Addr} (F : FunC K "are_goods" "are_goods" s_aregoods f c fd) (TB : GxR.TabB base mg c Pt) (hP : Pt ∈ tb) (A_is_name : AtD P w K mg base k tb "is_name" ["thing"] (G_is_name)) (m_all : mg "all" = none) (m_isinstance : mg "isinstance" = none) (m_len : mg "len" = none) (m_set : mg "set" = none) (m_tuple : mg "tuple" = none) {t_MOST_GOODS : Tok} (mc_MOST_GOODS : mg "MOST_GOODS" = some (.int 8 t_MOST_GOODS)) : FnOk P w K mg base (L2.CX P w) (k + 2) f fd ["thing"] (spF K tb (G_are_goods)) := by
  refine fndC F sc_aregoods (fun as T Q E h => ?_) (fun A outer s H E hr => ⟨_, (pssd_cons (psd_if (PWd.pt (pwd_or (ptd_not (ptd_tru (PD.k (pd_isi ki_tuple (by rfl) m_isinstance (by rfl) m_tuple (by decide +kernel) (pk_var (pv 0)))))) (pwd_or1 (ptd_not (ptd_chain opd_le opd_le (PD.k pd_int) (PD.k (pd_b1 cad_len (by rfl) m_len PySem.boot_len (pk_var (pv 0)))) (PD.k (pd_glob (by rfl) mc_MOST_GOODS))))))) (pssd_one (psd_ret pd_bl)) pssd_nil)
      (pssd_one (psd_ret (pd_and (pd_all (own := [("good", 1)]) (γ := (gdName 1)) (te := (dCall (fun _ => False) G_is_name (dCons (dVar 1) dNil))) (f := (iT (dVar 0))) hr (by rfl) m_all (by decide +kernel) TB hP rfl (show Gx.GenN n_aregoods (defScope s_aregoods) _ [("good", 1)] from ⟨rfl, rfl, by decide +kernel, rfl, by decide +kernel, by decide +kernel, by decide +kernel, by decide +kernel⟩) sc_aregoods.nd (pid_tup (pd_var (pv 0))) (fun _ _ _ _ _ _ => (PGd.y (pgd_name (i := 1) sc_aregoods.nd rfl (.inl rfl)))) (fun _ _ _ _ _ _ hr' => (pd_call A_is_name hr' (by rfl) (pad_cons (pd_var (pv 1)) pad_nil))) (fun _ => rfl)) (pd_one (pd_cmp (opd_eq hr.units) (PD.k (pd_lenSet rfl (by rfl) m_len (by rfl) m_set (pk_var (pv 0)))) (PD.k (pd_b1 cad_len (by rfl) m_len PySem.boot_len (pk_var (pv 0)))) (nomark _))))))), fun as T Qh Eh h => ?_⟩)
  · unfold G_are_goods at h
    split at h
    · rfl
    · exact h.elim
  · unfold G_are_goods at h
    split at h
    · rename_i x
      rw [show ∀ a0, startE n_aregoods [a0] = [a0, .no] from fun _ => rfl]
      try simp only [dIsNv, dRevO, dPar, dPar3, dTryB, bSeq, bIf, bCall, bNil, dAug, iR3, dMod0, xStar, dRepO, dExcA, dTryK, dIsx, lose, loseV, dSeq, dRet, dRetN, dIfS, dTst, dTru, dOp, dVar, dVarK, dC, dChain, dNot, dAnd, dOr, dAndE, dOrE, dNotE, dBoolE, dIf, dFn, dB, dTup, dLst, dO, xNil, xCons, dNext, dSet, dSetO, dRel, relE, dExpr, dCall, dCallO, dCons, dNil, dPurA, dAsg, gdName, gdNil, gdCons, gdTup, dForS, dCut, dCutO, dNoP, dPart, dCatO, dListO, dLc, wipeE, dApp, dIns, dSetIx, dRaise, dRetO, dRetOE, dCount, dRev, iL, iT, iS, iR1, iR2, iEL, iET, iZ, dYes, s_tb, s_tn, s_ti, s_tl, s_tt, s_dd, s_do, s_ll, s_lt, s_ls, s_ul, s_ut, s_isStr_none, s_isStr_bool, s_isStr_int, s_isStr_str, s_isStr_list, s_isStr_tuple, s_isTup_none, s_isTup_bool, s_isTup_int, s_isTup_str, s_isTup_list, s_isTup_tuple, s_isLst_none, s_isLst_bool, s_isLst_int, s_isLst_str, s_isLst_list, s_isLst_tuple, s_isInt_none, s_isInt_bool, s_isInt_int, s_isInt_str, s_isInt_list, s_isInt_tuple, s_isBool_none, s_isBool_bool, s_isBool_int, s_isBool_str, s_isBool_list, s_isBool_tuple, s_isN_none, s_isN_bool, s_isN_int, s_isN_str, s_isN_list, s_isN_tuple, s_is, s_isnt, s_xl, s_xt, s_xs, s_cl, s_ct, s_cs, s_add, s_sub, s_lti, s_lei, s_gti, s_gei, s_min, s_max, s_neg, s_abs, s_os, at0, at1, at2, eqD_int, neD_int, List.getElem?_cons_zero, List.getElem?_cons_succ, List.set_cons_zero, List.set_cons_succ, List.map_cons, List.map_nil, Bool.false_eq_true, Bool.not_true, Bool.not_false, ite_true, ite_false, if_true, if_false, true_and, and_true]
      cases x with
      | tuple ds =>
        try simp only [dIsNv, dRevO, dPar, dPar3, dTryB, bSeq, bIf, bCall, bNil, dAug, iR3, dMod0, xStar, dRepO, dExcA, dTryK, dIsx, lose, loseV, dSeq, dRet, dRetN, dIfS, dTst, dTru, dOp, dVar, dVarK, dC, dChain, dNot, dAnd, dOr, dAndE, dOrE, dNotE, dBoolE, dIf, dFn, dB, dTup, dLst, dO, xNil, xCons, dNext, dSet, dSetO, dRel, relE, dExpr, dCall, dCallO, dCons, dNil, dPurA, dAsg, gdName, gdNil, gdCons, gdTup, dForS, dCut, dCutO, dNoP, dPart, dCatO, dListO, dLc, wipeE, dApp, dIns, dSetIx, dRaise, dRetO, dRetOE, dCount, dRev, iL, iT, iS, iR1, iR2, iEL, iET, iZ, dYes, s_tb, s_tn, s_ti, s_tl, s_tt, s_dd, s_do, s_ll, s_lt, s_ls, s_ul, s_ut, s_isStr_none, s_isStr_bool, s_isStr_int, s_isStr_str, s_isStr_list, s_isStr_tuple, s_isTup_none, s_isTup_bool, s_isTup_int, s_isTup_str, s_isTup_list, s_isTup_tuple, s_isLst_none, s_isLst_bool, s_isLst_int, s_isLst_str, s_isLst_list, s_isLst_tuple, s_isInt_none, s_isInt_bool, s_isInt_int, s_isInt_str, s_isInt_list, s_isInt_tuple, s_isBool_none, s_isBool_bool, s_isBool_int, s_isBool_str, s_isBool_list, s_isBool_tuple, s_isN_none, s_isN_bool, s_isN_int, s_isN_str, s_isN_list, s_isN_tuple, s_is, s_isnt, s_xl, s_xt, s_xs, s_cl, s_ct, s_cs, s_add, s_sub, s_lti, s_lei, s_gti, s_gei, s_min, s_max, s_neg, s_abs, s_os, at0, at1, at2, eqD_int, neD_int, List.getElem?_cons_zero, List.getElem?_cons_succ, List.set_cons_zero, List.set_cons_succ, List.map_cons, List.map_nil, Bool.false_eq_true, Bool.not_true, Bool.not_false, ite_true, ite_false, if_true, if_false, true_and, and_true]
        have fin : (decide (1 ≤ (ds.length : Int)) && decide ((ds.length : Int) ≤ 8)) = false → Qh (.d (.bool false)) T := fun e => by
          have e2 : goodsD (.tuple ds) = false := by
            show (decide _ && (decide _ && _)) = false
            rw [← Bool.and_assoc, e]
            rfl
          rw [e2] at h
          exact h
        refine dif (fun ea => ?_) (fun ea => fin (by rw [ea]; rfl))
        refine dif (fun e => fin (by rw [nT e, Bool.and_false])) (fun e => ?_)
        have e1 : (decide (1 ≤ (ds.length : Int)) && decide ((ds.length : Int) ≤ 8)) = true := by rw [ea, nF e]; rfl
        have e3 : goodsD (.tuple ds) = nameD ds := by
          show (decide _ && (decide _ && _)) = _
          rw [← Bool.and_assoc, e1]
          rfl
        rw [e3] at h
        have hl : ds.length ≤ 1000 := by
          rw [Bool.and_eq_true, decide_eq_true_iff, decide_eq_true_iff] at e1
          omega
        refine dAll_of ds (isWordD 8) (fun R r => r) ?_ ?_
        · exact fun x _ => ⟨rfl, rfl⟩
        try simp only [dIsNv, dRevO, dPar, dPar3, dTryB, bSeq, bIf, bCall, bNil, dAug, iR3, dMod0, xStar, dRepO, dExcA, dTryK, dIsx, lose, loseV, dSeq, dRet, dRetN, dIfS, dTst, dTru, dOp, dVar, dVarK, dC, dChain, dNot, dAnd, dOr, dAndE, dOrE, dNotE, dBoolE, dIf, dFn, dB, dTup, dLst, dO, xNil, xCons, dNext, dSet, dSetO, dRel, relE, dExpr, dCall, dCallO, dCons, dNil, dPurA, dAsg, gdName, gdNil, gdCons, gdTup, dForS, dCut, dCutO, dNoP, dPart, dCatO, dListO, dLc, wipeE, dApp, dIns, dSetIx, dRaise, dRetO, dRetOE, dCount, dRev, iL, iT, iS, iR1, iR2, iEL, iET, iZ, dYes, s_tb, s_tn, s_ti, s_tl, s_tt, s_dd, s_do, s_ll, s_lt, s_ls, s_ul, s_ut, s_isStr_none, s_isStr_bool, s_isStr_int, s_isStr_str, s_isStr_list, s_isStr_tuple, s_isTup_none, s_isTup_bool, s_isTup_int, s_isTup_str, s_isTup_list, s_isTup_tuple, s_isLst_none, s_isLst_bool, s_isLst_int, s_isLst_str, s_isLst_list, s_isLst_tuple, s_isInt_none, s_isInt_bool, s_isInt_int, s_isInt_str, s_isInt_list, s_isInt_tuple, s_isBool_none, s_isBool_bool, s_isBool_int, s_isBool_str, s_isBool_list, s_isBool_tuple, s_isN_none, s_isN_bool, s_isN_int, s_isN_str, s_isN_list, s_isN_tuple, s_is, s_isnt, s_xl, s_xt, s_xs, s_cl, s_ct, s_cs, s_add, s_sub, s_lti, s_lei, s_gti, s_gei, s_min, s_max, s_neg, s_abs, s_os, at0, at1, at2, eqD_int, neD_int, List.getElem?_cons_zero, List.getElem?_cons_succ, List.set_cons_zero, List.set_cons_succ, List.map_cons, List.map_nil, Bool.false_eq_true, Bool.not_true, Bool.not_false, ite_true, ite_false, if_true, if_false, true_and, and_true]
        refine dif (fun e => ?_) (fun e => ?_)
        · have e0 : ndD (.tuple ds) = some (.int (Sx.nd (ds.map strOf))) := if_pos ⟨words_str e, hl⟩
          rw [e0]
          try simp only [dIsNv, dRevO, dPar, dPar3, dTryB, bSeq, bIf, bCall, bNil, dAug, iR3, dMod0, xStar, dRepO, dExcA, dTryK, dIsx, lose, loseV, dSeq, dRet, dRetN, dIfS, dTst, dTru, dOp, dVar, dVarK, dC, dChain, dNot, dAnd, dOr, dAndE, dOrE, dNotE, dBoolE, dIf, dFn, dB, dTup, dLst, dO, xNil, xCons, dNext, dSet, dSetO, dRel, relE, dExpr, dCall, dCallO, dCons, dNil, dPurA, dAsg, gdName, gdNil, gdCons, gdTup, dForS, dCut, dCutO, dNoP, dPart, dCatO, dListO, dLc, wipeE, dApp, dIns, dSetIx, dRaise, dRetO, dRetOE, dCount, dRev, iL, iT, iS, iR1, iR2, iEL, iET, iZ, dYes, s_tb, s_tn, s_ti, s_tl, s_tt, s_dd, s_do, s_ll, s_lt, s_ls, s_ul, s_ut, s_isStr_none, s_isStr_bool, s_isStr_int, s_isStr_str, s_isStr_list, s_isStr_tuple, s_isTup_none, s_isTup_bool, s_isTup_int, s_isTup_str, s_isTup_list, s_isTup_tuple, s_isLst_none, s_isLst_bool, s_isLst_int, s_isLst_str, s_isLst_list, s_isLst_tuple, s_isInt_none, s_isInt_bool, s_isInt_int, s_isInt_str, s_isInt_list, s_isInt_tuple, s_isBool_none, s_isBool_bool, s_isBool_int, s_isBool_str, s_isBool_list, s_isBool_tuple, s_isN_none, s_isN_bool, s_isN_int, s_isN_str, s_isN_list, s_isN_tuple, s_is, s_isnt, s_xl, s_xt, s_xs, s_cl, s_ct, s_cs, s_add, s_sub, s_lti, s_lei, s_gti, s_gei, s_min, s_max, s_neg, s_abs, s_os, at0, at1, at2, eqD_int, neD_int, List.getElem?_cons_zero, List.getElem?_cons_succ, List.set_cons_zero, List.set_cons_succ, List.map_cons, List.map_nil, Bool.false_eq_true, Bool.not_true, Bool.not_false, ite_true, ite_false, if_true, if_false, true_and, and_true]
          have e2 : decide (((Sx.nd (ds.map strOf) : Nat) : Int) = (ds.length : Int)) = nameD ds := by
            unfold nameD
            rw [e, Bool.true_and, Bool.eq_iff_iff, decide_eq_true_iff, decide_eq_true_iff, ← Sx.nd_eq, List.length_map]
            omega
          rw [e2]
          exact h
        · have e2 : nameD ds = false := by
            unfold nameD
            rw [e]
            rfl
          rw [e2] at h
          exact h
      | _ => exact h
    · exact h.elim

end
abbrev s_areprices : Stmt := topS 27
abbrev n_areprices : List Str := ["thing", "many", "price"]
theorem sc_areprices : FnScope n_areprices ["thing", "many"] (defScope s_areprices) := ⟨rfl, rfl, rfl, by decide +kernel, rfl, by decide +kernel, by decide +kernel⟩
def G_are_prices : DSp := fun as T Q _ => match as with
  | [.d x, .d (.int n)] => Q (.d (.bool (lineD 1 n x))) T
  | _ => False
section
variable {P : Program} {w : World} {K : PySem.W.Frag} {mg : Str → Option Value} {base : Heap}
theorem ok_areprices {f c Pt : Addr} {fd : FuncData} {k : Nat} {tb : List Addr} (F : FunC K "are_prices" "are_prices" s_areprices f c fd) (TB : GxR.TabB base mg c Pt) (hP : Pt ∈ tb) (A_is_list_of : AtD P w K mg base k tb "is_list_of" ["thing", "many"] (G_is_list_of)) (A_is_whole_within : AtD P w K mg base k tb "is_whole_within" ["thing", "least", "most"] (G_is_whole_within)) (m_all : mg "all" = none) {t_MOST_PRICE : Tok} (mc_MOST_PRICE : mg "MOST_PRICE" = some (.int 1000000 t_MOST_PRICE)) : FnOk P w K mg base (L2.CX P w) (k + 2) f fd ["thing", "many"] (spF K tb (G_are_prices)) := by
  refine fndC F sc_areprices (fun as T Q E h => ?_) (fun A outer s H E hr => ⟨_, (pssd_one (psd_ret (pd_and (pd_call A_is_list_of (hr.mono (Nat.le_succ _)) (by rfl) (pad_cons (pd_var (pv 0)) (pad_cons (pd_var (pv 1)) pad_nil))) (pd_one (pd_all (own := [("price", 2)]) (γ := (gdName 2)) (te := (dCall (fun _ => False) G_is_whole_within (dCons (dVar 2) (dCons (dC (.int 1)) (dCons (dC (.int 1000000)) dNil))))) (f := (iL (dVar 0))) hr (by rfl) m_all (by decide +kernel) TB hP rfl (show Gx.GenN n_areprices (defScope s_areprices) _ [("price", 2)] from ⟨rfl, rfl, by decide +kernel, rfl, by decide +kernel, by decide +kernel, by decide +kernel, by decide +kernel⟩) sc_areprices.nd (pid_list (pd_var (pv 0))) (fun _ _ _ _ _ _ => (PGd.y (pgd_name (i := 2) sc_areprices.nd rfl (.inl rfl)))) (fun _ _ _ _ _ _ hr' => (pd_call A_is_whole_within hr' (by rfl) (pad_cons (pd_var (pv 2)) (pad_cons pd_int (pad_cons (pd_glob (by rfl) mc_MOST_PRICE) pad_nil))))) (fun _ => rfl)))))), fun as T Qh Eh h => ?_⟩)
  · unfold G_are_prices at h
    split at h
    · rfl
    · exact h.elim
  · unfold G_are_prices at h
    split at h
    · rename_i x n
      rw [show ∀ a0 a1, startE n_areprices [a0, a1] = [a0, a1, .no] from fun _ _ => rfl]
      try simp only [dIsNv, dRevO, dPar, dPar3, dTryB, bSeq, bIf, bCall, bNil, dAug, iR3, dMod0, xStar, dRepO, dExcA, dTryK, dIsx, lose, loseV, dSeq, dRet, dRetN, dIfS, dTst, dTru, dOp, dVar, dVarK, dC, dChain, dNot, dAnd, dOr, dAndE, dOrE, dNotE, dBoolE, dIf, dFn, dB, dTup, dLst, dO, xNil, xCons, dNext, dSet, dSetO, dRel, relE, dExpr, dCall, dCallO, dCons, dNil, dPurA, dAsg, gdName, gdNil, gdCons, gdTup, dForS, dCut, dCutO, dNoP, dPart, dCatO, dListO, dLc, wipeE, dApp, dIns, dSetIx, dRaise, dRetO, dRetOE, dCount, dRev, iL, iT, iS, iR1, iR2, iEL, iET, iZ, dYes, s_tb, s_tn, s_ti, s_tl, s_tt, s_dd, s_do, s_ll, s_lt, s_ls, s_ul, s_ut, s_isStr_none, s_isStr_bool, s_isStr_int, s_isStr_str, s_isStr_list, s_isStr_tuple, s_isTup_none, s_isTup_bool, s_isTup_int, s_isTup_str, s_isTup_list, s_isTup_tuple, s_isLst_none, s_isLst_bool, s_isLst_int, s_isLst_str, s_isLst_list, s_isLst_tuple, s_isInt_none, s_isInt_bool, s_isInt_int, s_isInt_str, s_isInt_list, s_isInt_tuple, s_isBool_none, s_isBool_bool, s_isBool_int, s_isBool_str, s_isBool_list, s_isBool_tuple, s_isN_none, s_isN_bool, s_isN_int, s_isN_str, s_isN_list, s_isN_tuple, s_is, s_isnt, s_xl, s_xt, s_xs, s_cl, s_ct, s_cs, s_add, s_sub, s_lti, s_lei, s_gti, s_gei, s_min, s_max, s_neg, s_abs, s_os, at0, at1, at2, eqD_int, neD_int, List.getElem?_cons_zero, List.getElem?_cons_succ, List.set_cons_zero, List.set_cons_succ, List.map_cons, List.map_nil, Bool.false_eq_true, Bool.not_true, Bool.not_false, ite_true, ite_false, if_true, if_false, true_and, and_true]
      cases x with
      | list ds =>
        try simp only [dIsNv, dRevO, dPar, dPar3, dTryB, bSeq, bIf, bCall, bNil, dAug, iR3, dMod0, xStar, dRepO, dExcA, dTryK, dIsx, lose, loseV, dSeq, dRet, dRetN, dIfS, dTst, dTru, dOp, dVar, dVarK, dC, dChain, dNot, dAnd, dOr, dAndE, dOrE, dNotE, dBoolE, dIf, dFn, dB, dTup, dLst, dO, xNil, xCons, dNext, dSet, dSetO, dRel, relE, dExpr, dCall, dCallO, dCons, dNil, dPurA, dAsg, gdName, gdNil, gdCons, gdTup, dForS, dCut, dCutO, dNoP, dPart, dCatO, dListO, dLc, wipeE, dApp, dIns, dSetIx, dRaise, dRetO, dRetOE, dCount, dRev, iL, iT, iS, iR1, iR2, iEL, iET, iZ, dYes, s_tb, s_tn, s_ti, s_tl, s_tt, s_dd, s_do, s_ll, s_lt, s_ls, s_ul, s_ut, s_isStr_none, s_isStr_bool, s_isStr_int, s_isStr_str, s_isStr_list, s_isStr_tuple, s_isTup_none, s_isTup_bool, s_isTup_int, s_isTup_str, s_isTup_list, s_isTup_tuple, s_isLst_none, s_isLst_bool, s_isLst_int, s_isLst_str, s_isLst_list, s_isLst_tuple, s_isInt_none, s_isInt_bool, s_isInt_int, s_isInt_str, s_isInt_list, s_isInt_tuple, s_isBool_none, s_isBool_bool, s_isBool_int, s_isBool_str, s_isBool_list, s_isBool_tuple, s_isN_none, s_isN_bool, s_isN_int, s_isN_str, s_isN_list, s_isN_tuple, s_is, s_isnt, s_xl, s_xt, s_xs, s_cl, s_ct, s_cs, s_add, s_sub, s_lti, s_lei, s_gti, s_gei, s_min, s_max, s_neg, s_abs, s_os, at0, at1, at2, eqD_int, neD_int, List.getElem?_cons_zero, List.getElem?_cons_succ, List.set_cons_zero, List.set_cons_succ, List.map_cons, List.map_nil, Bool.false_eq_true, Bool.not_true, Bool.not_false, ite_true, ite_false, if_true, if_false, true_and, and_true]
        refine dif (fun e => ?_) (fun e => ?_)
        · refine dAll_of ds (withinD 1 1000000) (fun R r => r) ?_ ?_
          · exact fun x _ => ⟨rfl, rfl⟩
          have e2 : lineD 1 n (.list ds) = ds.all (withinD 1 1000000) := by
            show (decide _ && _) = _
            rw [show decide ((ds.length : Int) = n) = true from e]
            rfl
          rw [e2] at h
          exact h
        · have e2 : lineD 1 n (.list ds) = false := by
            show (decide _ && _) = _
            rw [show decide ((ds.length : Int) = n) = false from e]
            rfl
          rw [e2] at h
          exact h
      | _ => exact h
    · exact h.elim

end
abbrev s_areamounts : Stmt := topS 28
abbrev n_areamounts : List Str := ["thing", "many", "amount"]
theorem sc_areamounts : FnScope n_areamounts ["thing", "many"] (defScope s_areamounts) := ⟨rfl, rfl, rfl, by decide +kernel, rfl, by decide +kernel, by decide +kernel⟩
def G_are_amounts : DSp := fun as T Q _ => match as with
  | [.d x, .d (.int n)] => 1 ≤ n ∧ Q (.d (.bool (amtD n x))) T
  | _ => False
section
variable {P : Program} {w : World} {K : PySem.W.Frag} {mg : Str → Option Value} {base : Heap}
theorem ok_areamounts {f c Pt : Addr} {fd : FuncData} {k : Nat} {tb : List Addr} (F : FunC K "are_amounts" "are_amounts" s_areamounts f c fd) (TB : GxR.TabB base mg c Pt) (hP : Pt ∈ tb) (A_is_list_of : AtD P w K mg base k tb "is_list_of" ["thing", "many"] (G_is_list_of)) (A_is_whole_within : AtD P w K mg base k tb "is_whole_within" ["thing", "least", "most"] (G_is_whole_within)) (m_all : mg "all" = none) (m_max : mg "max" = none) {t_MOST_AMOUNT : Tok} (mc_MOST_AMOUNT : mg "MOST_AMOUNT" = some (.int 1000000 t_MOST_AMOUNT)) : FnOk P w K mg base (L2.CX P w) (k + 2) f fd ["thing", "many"] (spF K tb (G_are_amounts)) := by
  refine fndC F sc_areamounts (fun as T Q E h => ?_) (fun A outer s H E hr => ⟨_, (pssd_cons (psd_if (PWd.pt (pwd_or (ptd_not (ptd_tru (PD.k (pd_call A_is_list_of (hr.mono (Nat.le_succ _)) (by rfl) (pad_cons (pd_var (pv 0)) (pad_cons (pd_var (pv 1)) pad_nil)))))) (pwd_or1 (ptd_not (ptd_tru (PD.k (pd_all (own := [("amount", 2)]) (γ := (gdName 2)) (te := (dCall (fun _ => False) G_is_whole_within (dCons (dVar 2) (dCons (dC (.int 0)) (dCons (dC (.int 1000000)) dNil))))) (f := (iL (dVar 0))) hr (by rfl) m_all (by decide +kernel) TB hP rfl (show Gx.GenN n_areamounts (defScope s_areamounts) _ [("amount", 2)] from ⟨rfl, rfl, by decide +kernel, rfl, by decide +kernel, by decide +kernel, by decide +kernel, by decide +kernel⟩) sc_areamounts.nd (pid_list (pd_var (pv 0))) (fun _ _ _ _ _ _ => (PGd.y (pgd_name (i := 2) sc_areamounts.nd rfl (.inl rfl)))) (fun _ _ _ _ _ _ hr' => (pd_call A_is_whole_within hr' (by rfl) (pad_cons (pd_var (pv 2)) (pad_cons pd_int (pad_cons (pd_glob (by rfl) mc_MOST_AMOUNT) pad_nil))))) (fun _ => rfl)))))))) (pssd_one (psd_ret pd_bl)) pssd_nil)
      (pssd_one (psd_ret (pd_cmp opd_gt (PD.k (pd_b1 (cad_max rfl) (by rfl) m_max (by decide +kernel) (pk_var (pv 0)))) (PD.k pd_int) (nomark _))))), fun as T Qh Eh h => ?_⟩)
  · unfold G_are_amounts at h
    split at h
    · rfl
    · exact h.elim
  · unfold G_are_amounts at h
    split at h
    · rename_i x n
      obtain ⟨hn, h⟩ := h
      rw [show ∀ a0 a1, startE n_areamounts [a0, a1] = [a0, a1, .no] from fun _ _ => rfl]
      try simp only [dIsNv, dRevO, dPar, dPar3, dTryB, bSeq, bIf, bCall, bNil, dAug, iR3, dMod0, xStar, dRepO, dExcA, dTryK, dIsx, lose, loseV, dSeq, dRet, dRetN, dIfS, dTst, dTru, dOp, dVar, dVarK, dC, dChain, dNot, dAnd, dOr, dAndE, dOrE, dNotE, dBoolE, dIf, dFn, dB, dTup, dLst, dO, xNil, xCons, dNext, dSet, dSetO, dRel, relE, dExpr, dCall, dCallO, dCons, dNil, dPurA, dAsg, gdName, gdNil, gdCons, gdTup, dForS, dCut, dCutO, dNoP, dPart, dCatO, dListO, dLc, wipeE, dApp, dIns, dSetIx, dRaise, dRetO, dRetOE, dCount, dRev, iL, iT, iS, iR1, iR2, iEL, iET, iZ, dYes, s_tb, s_tn, s_ti, s_tl, s_tt, s_dd, s_do, s_ll, s_lt, s_ls, s_ul, s_ut, s_isStr_none, s_isStr_bool, s_isStr_int, s_isStr_str, s_isStr_list, s_isStr_tuple, s_isTup_none, s_isTup_bool, s_isTup_int, s_isTup_str, s_isTup_list, s_isTup_tuple, s_isLst_none, s_isLst_bool, s_isLst_int, s_isLst_str, s_isLst_list, s_isLst_tuple, s_isInt_none, s_isInt_bool, s_isInt_int, s_isInt_str, s_isInt_list, s_isInt_tuple, s_isBool_none, s_isBool_bool, s_isBool_int, s_isBool_str, s_isBool_list, s_isBool_tuple, s_isN_none, s_isN_bool, s_isN_int, s_isN_str, s_isN_list, s_isN_tuple, s_is, s_isnt, s_xl, s_xt, s_xs, s_cl, s_ct, s_cs, s_add, s_sub, s_lti, s_lei, s_gti, s_gei, s_min, s_max, s_neg, s_abs, s_os, at0, at1, at2, eqD_int, neD_int, List.getElem?_cons_zero, List.getElem?_cons_succ, List.set_cons_zero, List.set_cons_succ, List.map_cons, List.map_nil, Bool.false_eq_true, Bool.not_true, Bool.not_false, ite_true, ite_false, if_true, if_false, true_and, and_true]
      cases x with
      | list ds =>
        try simp only [dIsNv, dRevO, dPar, dPar3, dTryB, bSeq, bIf, bCall, bNil, dAug, iR3, dMod0, xStar, dRepO, dExcA, dTryK, dIsx, lose, loseV, dSeq, dRet, dRetN, dIfS, dTst, dTru, dOp, dVar, dVarK, dC, dChain, dNot, dAnd, dOr, dAndE, dOrE, dNotE, dBoolE, dIf, dFn, dB, dTup, dLst, dO, xNil, xCons, dNext, dSet, dSetO, dRel, relE, dExpr, dCall, dCallO, dCons, dNil, dPurA, dAsg, gdName, gdNil, gdCons, gdTup, dForS, dCut, dCutO, dNoP, dPart, dCatO, dListO, dLc, wipeE, dApp, dIns, dSetIx, dRaise, dRetO, dRetOE, dCount, dRev, iL, iT, iS, iR1, iR2, iEL, iET, iZ, dYes, s_tb, s_tn, s_ti, s_tl, s_tt, s_dd, s_do, s_ll, s_lt, s_ls, s_ul, s_ut, s_isStr_none, s_isStr_bool, s_isStr_int, s_isStr_str, s_isStr_list, s_isStr_tuple, s_isTup_none, s_isTup_bool, s_isTup_int, s_isTup_str, s_isTup_list, s_isTup_tuple, s_isLst_none, s_isLst_bool, s_isLst_int, s_isLst_str, s_isLst_list, s_isLst_tuple, s_isInt_none, s_isInt_bool, s_isInt_int, s_isInt_str, s_isInt_list, s_isInt_tuple, s_isBool_none, s_isBool_bool, s_isBool_int, s_isBool_str, s_isBool_list, s_isBool_tuple, s_isN_none, s_isN_bool, s_isN_int, s_isN_str, s_isN_list, s_isN_tuple, s_is, s_isnt, s_xl, s_xt, s_xs, s_cl, s_ct, s_cs, s_add, s_sub, s_lti, s_lei, s_gti, s_gei, s_min, s_max, s_neg, s_abs, s_os, at0, at1, at2, eqD_int, neD_int, List.getElem?_cons_zero, List.getElem?_cons_succ, List.set_cons_zero, List.set_cons_succ, List.map_cons, List.map_nil, Bool.false_eq_true, Bool.not_true, Bool.not_false, ite_true, ite_false, if_true, if_false, true_and, and_true]
        have fin : lineD 0 n (.list ds) = false → Qh (.d (.bool false)) T := fun e => by
          have e2 : amtD n (.list ds) = false := by
            show (_ && _) = false
            rw [e]
            rfl
          rw [e2] at h
          exact h
        refine dif (fun e => ?_) (fun e => ?_)
        · refine fin ?_
          have : isLof n (.list ds) = false := nT e
          show (decide _ && _) = _
          rw [show decide ((ds.length : Int) = n) = false from this]
          rfl
        have el : isLof n (.list ds) = true := nF e
        have hl : (ds.length : Int) = n := of_decide_eq_true el
        refine dAll_of ds (withinD 0 1000000) (fun R r => r) ?_ ?_
        · exact fun x _ => ⟨rfl, rfl⟩
        try simp only [dIsNv, dRevO, dPar, dPar3, dTryB, bSeq, bIf, bCall, bNil, dAug, iR3, dMod0, xStar, dRepO, dExcA, dTryK, dIsx, lose, loseV, dSeq, dRet, dRetN, dIfS, dTst, dTru, dOp, dVar, dVarK, dC, dChain, dNot, dAnd, dOr, dAndE, dOrE, dNotE, dBoolE, dIf, dFn, dB, dTup, dLst, dO, xNil, xCons, dNext, dSet, dSetO, dRel, relE, dExpr, dCall, dCallO, dCons, dNil, dPurA, dAsg, gdName, gdNil, gdCons, gdTup, dForS, dCut, dCutO, dNoP, dPart, dCatO, dListO, dLc, wipeE, dApp, dIns, dSetIx, dRaise, dRetO, dRetOE, dCount, dRev, iL, iT, iS, iR1, iR2, iEL, iET, iZ, dYes, s_tb, s_tn, s_ti, s_tl, s_tt, s_dd, s_do, s_ll, s_lt, s_ls, s_ul, s_ut, s_isStr_none, s_isStr_bool, s_isStr_int, s_isStr_str, s_isStr_list, s_isStr_tuple, s_isTup_none, s_isTup_bool, s_isTup_int, s_isTup_str, s_isTup_list, s_isTup_tuple, s_isLst_none, s_isLst_bool, s_isLst_int, s_isLst_str, s_isLst_list, s_isLst_tuple, s_isInt_none, s_isInt_bool, s_isInt_int, s_isInt_str, s_isInt_list, s_isInt_tuple, s_isBool_none, s_isBool_bool, s_isBool_int, s_isBool_str, s_isBool_list, s_isBool_tuple, s_isN_none, s_isN_bool, s_isN_int, s_isN_str, s_isN_list, s_isN_tuple, s_is, s_isnt, s_xl, s_xt, s_xs, s_cl, s_ct, s_cs, s_add, s_sub, s_lti, s_lei, s_gti, s_gei, s_min, s_max, s_neg, s_abs, s_os, at0, at1, at2, eqD_int, neD_int, List.getElem?_cons_zero, List.getElem?_cons_succ, List.set_cons_zero, List.set_cons_succ, List.map_cons, List.map_nil, Bool.false_eq_true, Bool.not_true, Bool.not_false, ite_true, ite_false, if_true, if_false, true_and, and_true]
        refine dif (fun e => ?_) (fun e => ?_)
        · refine fin ?_
          show (decide _ && _) = _
          rw [show ds.all (withinD 0 1000000) = false from nT e, Bool.and_false]
        have ea : ds.all (withinD 0 1000000) = true := nF e
        obtain ⟨ns, rfl⟩ := within_map ea
        obtain ⟨m, em, ep⟩ := max_pos (ns := ns) (fun z => by
          rw [z] at hl
          have : (0 : Int) = n := hl
          omega)
        rw [em]
        try simp only [dIsNv, dRevO, dPar, dPar3, dTryB, bSeq, bIf, bCall, bNil, dAug, iR3, dMod0, xStar, dRepO, dExcA, dTryK, dIsx, lose, loseV, dSeq, dRet, dRetN, dIfS, dTst, dTru, dOp, dVar, dVarK, dC, dChain, dNot, dAnd, dOr, dAndE, dOrE, dNotE, dBoolE, dIf, dFn, dB, dTup, dLst, dO, xNil, xCons, dNext, dSet, dSetO, dRel, relE, dExpr, dCall, dCallO, dCons, dNil, dPurA, dAsg, gdName, gdNil, gdCons, gdTup, dForS, dCut, dCutO, dNoP, dPart, dCatO, dListO, dLc, wipeE, dApp, dIns, dSetIx, dRaise, dRetO, dRetOE, dCount, dRev, iL, iT, iS, iR1, iR2, iEL, iET, iZ, dYes, s_tb, s_tn, s_ti, s_tl, s_tt, s_dd, s_do, s_ll, s_lt, s_ls, s_ul, s_ut, s_isStr_none, s_isStr_bool, s_isStr_int, s_isStr_str, s_isStr_list, s_isStr_tuple, s_isTup_none, s_isTup_bool, s_isTup_int, s_isTup_str, s_isTup_list, s_isTup_tuple, s_isLst_none, s_isLst_bool, s_isLst_int, s_isLst_str, s_isLst_list, s_isLst_tuple, s_isInt_none, s_isInt_bool, s_isInt_int, s_isInt_str, s_isInt_list, s_isInt_tuple, s_isBool_none, s_isBool_bool, s_isBool_int, s_isBool_str, s_isBool_list, s_isBool_tuple, s_isN_none, s_isN_bool, s_isN_int, s_isN_str, s_isN_list, s_isN_tuple, s_is, s_isnt, s_xl, s_xt, s_xs, s_cl, s_ct, s_cs, s_add, s_sub, s_lti, s_lei, s_gti, s_gei, s_min, s_max, s_neg, s_abs, s_os, at0, at1, at2, eqD_int, neD_int, List.getElem?_cons_zero, List.getElem?_cons_succ, List.set_cons_zero, List.set_cons_succ, List.map_cons, List.map_nil, Bool.false_eq_true, Bool.not_true, Bool.not_false, ite_true, ite_false, if_true, if_false, true_and, and_true]
        rw [ep]
        have e2 : amtD n (.list (ns.map PyData.int)) = (ns.map PyData.int).any posD := by
          show ((decide _ && _) && _) = _
          rw [ea, show decide (((ns.map PyData.int).length : Int) = n) = true from decide_eq_true hl]
          rfl
        rw [e2] at h
        exact h
      | _ => exact h
    · exact h.elim

end
end Dv
set_option Elab.async false
set_option linter.all false
set_option maxRecDepth 100000
set_option maxHeartbeats 1000000
namespace Dv
open PySem PySem.Spec PyProof.Rows L2
def glen : PyData → Int
  | .tuple ds => ds.length
  | _ => 0
def firstF (p : PyData → Bool) : Nat → List PyData → Option Nat
  | _, [] => none
  | k, d :: r => if p d = true then firstF p (k + 1) r else some k
theorem firstF_cons {p : PyData → Bool} {k : Nat} {d : PyData} {r : List PyData} : firstF p k (d :: r) = if p d = true then firstF p (k + 1) r else some k := rfl
theorem firstF_none {p : PyData → Bool} : ∀ {k : Nat} {ds : List PyData}, firstF p k ds = none → ∀ d ∈ ds, p d = true
  | _, [], _ => fun d hd => by simp at hd
  | k, d :: r, h => by
    unfold firstF at h
    split at h
    · rename_i e
      intro x hx
      rcases List.mem_cons.mp hx with rfl | hx
      · exact e
      · exact firstF_none h x hx
    · cases h
theorem firstF_all {p : PyData → Bool} : ∀ {k : Nat} {ds : List PyData}, (∀ d ∈ ds, p d = true) → firstF p k ds = none
  | _, [], _ => rfl
  | k, d :: r, h => by
    unfold firstF
    rw [if_pos (h d List.mem_cons_self)]
    exact firstF_all fun x hx => h x (List.mem_cons_of_mem _ hx)
def wrongQ (n : Int) (qs : List PyData) : PyData := match firstF (amtD n) 0 qs with
  | some k => .tuple [.str "amounts", .int (k : Nat)]
  | none => .none
def wrongR (n : Int) (ps qs : List PyData) : PyData := match firstF (lineD 1 n) 0 ps with
  | some k => .tuple [.str "prices", .int (k : Nat)]
  | none => wrongQ n qs
/-- what is wrong with a market -/
def mwrong : PyData → PyData
  | .tuple [g, .list ps, .list qs] => if mkForm (.tuple [g, .list ps, .list qs]) = true then (if goodsD g = true then wrongR (glen g) ps qs else .tuple [.str "goods"]) else .tuple [.str "market"]
  | _ => .tuple [.str "market"]
theorem mw_form {x : PyData} (h : mkForm x = false) : mwrong x = .tuple [.str "market"] := by
  unfold mwrong
  split
  · rw [if_neg (by rw [h]; exact Bool.false_ne_true)]
  · rfl
theorem mk_split {x : PyData} (h : mkForm x = true) : ∃ g ps qs, x = .tuple [g, .list ps, .list qs] ∧ qs.length = ps.length ∧ 1 ≤ ps.length ∧ ps.length ≤ 24 := by
  unfold mkForm at h
  split at h
  · rename_i g ps qs
    rw [Bool.and_eq_true, Bool.and_eq_true, decide_eq_true_iff, decide_eq_true_iff, decide_eq_true_iff] at h
    exact ⟨g, ps, qs, rfl, by omega, by omega, by omega⟩
  · cases h
theorem goods_split {g : PyData} (h : goodsD g = true) : ∃ gs, g = .tuple gs ∧ 1 ≤ gs.length ∧ gs.length ≤ 8 ∧ nameD gs = true := by
  unfold goodsD at h
  split at h
  · rename_i gs
    rw [Bool.and_eq_true, Bool.and_eq_true, decide_eq_true_iff, decide_eq_true_iff] at h
    exact ⟨gs, rfl, by omega, by omega, h.2.2⟩
  · cases h
theorem mw_goods {g : PyData} {ps qs : List PyData} (h : mkForm (.tuple [g, .list ps, .list qs]) = true) (h2 : goodsD g = false) : mwrong (.tuple [g, .list ps, .list qs]) = .tuple [.str "goods"] := by
  show (if mkForm (.tuple [g, .list ps, .list qs]) = true then (if goodsD g = true then wrongR (glen g) ps qs else .tuple [.str "goods"]) else .tuple [.str "market"]) = _
  rw [if_pos h, if_neg (by rw [h2]; exact Bool.false_ne_true)]
theorem mw_rest {g : PyData} {ps qs : List PyData} (h : mkForm (.tuple [g, .list ps, .list qs]) = true) (h2 : goodsD g = true) : mwrong (.tuple [g, .list ps, .list qs]) = wrongR (glen g) ps qs := by
  show (if mkForm (.tuple [g, .list ps, .list qs]) = true then (if goodsD g = true then wrongR (glen g) ps qs else .tuple [.str "goods"]) else .tuple [.str "market"]) = _
  rw [if_pos h, if_pos h2]
theorem drop_getD {ds : List PyData} {i : Nat} (h : i < ds.length) : ds.drop i = ds.getD i .none :: ds.drop (i + 1) := by
  rw [List.drop_eq_getElem_cons h, List.getD_eq_getElem?_getD, List.getElem?_eq_getElem h]
  rfl

abbrev s_marketwrong : Stmt := topS 29
abbrev n_marketwrong : List Str := ["thing", "goods", "prices", "amounts", "k", "line"]
theorem sc_marketwrong : FnScope n_marketwrong ["thing"] (defScope s_marketwrong) := ⟨rfl, rfl, rfl, by decide +kernel, rfl, by decide +kernel, by decide +kernel⟩
def G_market_wrong : DSp := fun as T Q _ => match as with
  | [.d x] => Q (.d (mwrong x)) T
  | _ => False
section
variable {P : Program} {w : World} {K : PySem.W.Frag} {mg : Str → Option Value} {base : Heap}
theorem ok_marketwrong {f : Addr} {fd : FuncData} {k : Nat} {tb : List Addr} (F : Fun K "market_wrong" "market_wrong" s_marketwrong f fd) (A_are_amounts : AtD P w K mg base k tb "are_amounts" ["thing", "many"] (G_are_amounts)) (A_are_goods : AtD P w K mg base k tb "are_goods" ["thing"] (G_are_goods)) (A_are_prices : AtD P w K mg base k tb "are_prices" ["thing", "many"] (G_are_prices)) (A_is_market_by_form : AtD P w K mg base k tb "is_market_by_form" ["thing"] (G_is_market_by_form)) (m_enumerate : mg "enumerate" = none) (m_len : mg "len" = none) : FnOk P w K mg base (L2.CX P w) (k + 1) f fd ["thing"] (spF K tb (G_market_wrong)) := by
  refine fnd F sc_marketwrong (fun as T Q E h => ?_) (fun cdv A outer s H E hr => ⟨_, (pssd_cons (psd_if (ptd_not (ptd_tru (PD.k (pd_call A_is_market_by_form hr (by rfl) (pad_cons (pd_var (pv 0)) pad_nil))))) (pssd_one (psd_ret (pd_tup (pxd_cons pd_str pxd_nil)))) pssd_nil)
      (pssd_cons (psd_asg (pd_var (pv 0)) (pgd_tup (n := 3) rfl (pgsd_cons (pgd_name (i := 1) sc_marketwrong.nd rfl (.inl rfl)) (pgsd_cons (pgd_name (i := 2) sc_marketwrong.nd rfl (.inl rfl)) (pgsd_cons (pgd_name (i := 3) sc_marketwrong.nd rfl (.inl rfl)) pgsd_nil)))))
      (pssd_cons (psd_if (ptd_not (ptd_tru (PD.k (pd_call A_are_goods hr (by rfl) (pad_cons (pd_var (pv 1)) pad_nil))))) (pssd_one (psd_ret (pd_tup (pxd_cons pd_str pxd_nil)))) pssd_nil)
      (pssd_cons (psd_for PassesOwn.never rfl (pid_enumL (by rfl) m_enumerate (pd_var (pv 2))) (pgy_tup (n := 2) rfl (pgsd_cons (pgd_name (i := 4) sc_marketwrong.nd rfl (.inl rfl)) (pgsd_cons (pgd_name (i := 5) sc_marketwrong.nd rfl (.inl rfl)) pgsd_nil))) (pssd_one (psd_if (ptd_not (ptd_tru (PD.k (pd_call A_are_prices hr (by rfl) (pad_cons (pd_var (pv 5)) (pad_cons (pd_b1 cad_len (by rfl) m_len PySem.boot_len (pk_var (pv 1))) pad_nil)))))) (pssd_one (psd_ret (pd_tup (pxd_cons pd_str (pxd_cons (pd_var (pv 4)) pxd_nil))))) pssd_nil)))
      (pssd_cons (psd_for PassesOwn.never rfl (pid_enumL (by rfl) m_enumerate (pd_var (pv 3))) (pgy_tup (n := 2) rfl (pgsd_cons (pgd_name (i := 4) sc_marketwrong.nd rfl (.inl rfl)) (pgsd_cons (pgd_name (i := 5) sc_marketwrong.nd rfl (.inl rfl)) pgsd_nil))) (pssd_one (psd_if (ptd_not (ptd_tru (PD.k (pd_call A_are_amounts hr (by rfl) (pad_cons (pd_var (pv 5)) (pad_cons (pd_b1 cad_len (by rfl) m_len PySem.boot_len (pk_var (pv 1))) pad_nil)))))) (pssd_one (psd_ret (pd_tup (pxd_cons pd_str (pxd_cons (pd_var (pv 4)) pxd_nil))))) pssd_nil)))
      (pssd_one (psd_ret pd_non))))))), fun as T Qh Eh h => ?_⟩)
  · unfold G_market_wrong at h
    split at h
    · rfl
    · exact h.elim
  · unfold G_market_wrong at h
    split at h
    · rename_i x
      rw [show ∀ a0, startE n_marketwrong [a0] = [a0, .no, .no, .no, .no, .no] from fun _ => rfl]
      try simp only [dIsNv, dRevO, dPar, dPar3, dTryB, bSeq, bIf, bCall, bNil, dAug, iR3, dMod0, xStar, dRepO, dExcA, dTryK, dIsx, lose, loseV, dSeq, dRet, dRetN, dIfS, dTst, dTru, dOp, dVar, dVarK, dC, dChain, dNot, dAnd, dOr, dAndE, dOrE, dNotE, dBoolE, dIf, dFn, dB, dTup, dLst, dO, xNil, xCons, dNext, dSet, dSetO, dRel, relE, dExpr, dCall, dCallO, dCons, dNil, dPurA, dAsg, gdName, gdNil, gdCons, gdTup, dForS, dCut, dCutO, dNoP, dPart, dCatO, dListO, dLc, wipeE, dApp, dIns, dSetIx, dRaise, dRetO, dRetOE, dCount, dRev, iL, iT, iS, iR1, iR2, iEL, iET, iZ, dYes, s_tb, s_tn, s_ti, s_tl, s_tt, s_dd, s_do, s_ll, s_lt, s_ls, s_ul, s_ut, s_isStr_none, s_isStr_bool, s_isStr_int, s_isStr_str, s_isStr_list, s_isStr_tuple, s_isTup_none, s_isTup_bool, s_isTup_int, s_isTup_str, s_isTup_list, s_isTup_tuple, s_isLst_none, s_isLst_bool, s_isLst_int, s_isLst_str, s_isLst_list, s_isLst_tuple, s_isInt_none, s_isInt_bool, s_isInt_int, s_isInt_str, s_isInt_list, s_isInt_tuple, s_isBool_none, s_isBool_bool, s_isBool_int, s_isBool_str, s_isBool_list, s_isBool_tuple, s_isN_none, s_isN_bool, s_isN_int, s_isN_str, s_isN_list, s_isN_tuple, s_is, s_isnt, s_xl, s_xt, s_xs, s_cl, s_ct, s_cs, s_add, s_sub, s_lti, s_lei, s_gti, s_gei, s_min, s_max, s_neg, s_abs, s_os, at0, at1, at2, eqD_int, neD_int, List.getElem?_cons_zero, List.getElem?_cons_succ, List.set_cons_zero, List.set_cons_succ, List.map_cons, List.map_nil, Bool.false_eq_true, Bool.not_true, Bool.not_false, ite_true, ite_false, if_true, if_false, true_and, and_true]
      refine dif (fun e => ?_) (fun e => ?_)
      · rw [mw_form (nT e)] at h
        exact ⟨le_dn rfl, h⟩
      have hf : mkForm x = true := nF e
      obtain ⟨g, ps, qs, rfl, hl, l1, l24⟩ := mk_split hf
      refine ⟨rfl, ?_⟩
      try simp only [dIsNv, dRevO, dPar, dPar3, dTryB, bSeq, bIf, bCall, bNil, dAug, iR3, dMod0, xStar, dRepO, dExcA, dTryK, dIsx, lose, loseV, dSeq, dRet, dRetN, dIfS, dTst, dTru, dOp, dVar, dVarK, dC, dChain, dNot, dAnd, dOr, dAndE, dOrE, dNotE, dBoolE, dIf, dFn, dB, dTup, dLst, dO, xNil, xCons, dNext, dSet, dSetO, dRel, relE, dExpr, dCall, dCallO, dCons, dNil, dPurA, dAsg, gdName, gdNil, gdCons, gdTup, dForS, dCut, dCutO, dNoP, dPart, dCatO, dListO, dLc, wipeE, dApp, dIns, dSetIx, dRaise, dRetO, dRetOE, dCount, dRev, iL, iT, iS, iR1, iR2, iEL, iET, iZ, dYes, s_tb, s_tn, s_ti, s_tl, s_tt, s_dd, s_do, s_ll, s_lt, s_ls, s_ul, s_ut, s_isStr_none, s_isStr_bool, s_isStr_int, s_isStr_str, s_isStr_list, s_isStr_tuple, s_isTup_none, s_isTup_bool, s_isTup_int, s_isTup_str, s_isTup_list, s_isTup_tuple, s_isLst_none, s_isLst_bool, s_isLst_int, s_isLst_str, s_isLst_list, s_isLst_tuple, s_isInt_none, s_isInt_bool, s_isInt_int, s_isInt_str, s_isInt_list, s_isInt_tuple, s_isBool_none, s_isBool_bool, s_isBool_int, s_isBool_str, s_isBool_list, s_isBool_tuple, s_isN_none, s_isN_bool, s_isN_int, s_isN_str, s_isN_list, s_isN_tuple, s_is, s_isnt, s_xl, s_xt, s_xs, s_cl, s_ct, s_cs, s_add, s_sub, s_lti, s_lei, s_gti, s_gei, s_min, s_max, s_neg, s_abs, s_os, at0, at1, at2, eqD_int, neD_int, List.getElem?_cons_zero, List.getElem?_cons_succ, List.set_cons_zero, List.set_cons_succ, List.map_cons, List.map_nil, Bool.false_eq_true, Bool.not_true, Bool.not_false, ite_true, ite_false, if_true, if_false, true_and, and_true]
      refine dif (fun e => ?_) (fun e => ?_)
      · rw [mw_goods hf (nT e)] at h
        exact ⟨le_dn rfl, h⟩
      have hg : goodsD g = true := nF e
      rw [mw_rest hf hg] at h
      obtain ⟨gs, rfl, g1, g8, gn⟩ := goods_split hg
      have h' : Qh (.d (wrongR (gs.length : Int) ps qs)) T := h
      clear h
      unfold enumD
      refine dFor_map (fun (i : Nat) => PyData.tuple [.int i, ps.getD i .none]) (fun i E' T' => (∃ a b, E' = [.d (.tuple [.tuple gs, .list ps, .list qs]), .d (.tuple gs), .d (.list ps), .d (.list qs), a, b]) ∧ T = T' ∧ firstF (lineD 1 gs.length) 0 ps = firstF (lineD 1 gs.length) i (ps.drop i)) ⟨⟨_, _, rfl⟩, rfl, rfl⟩ (fun i i' E' T' K hi hI hK => ?_) (fun E' T' hI => ?_)
      · obtain ⟨⟨a, b, rfl⟩, rfl, hF⟩ := hI
        have hi2 : i < ps.length := by
          have := (List.getElem?_eq_some_iff.mp hi).1
          rw [List.length_range] at this
          exact this
        rw [List.getElem?_range hi2] at hi
        cases hi
        rw [drop_getD hi2, firstF_cons] at hF
        refine ⟨rfl, ?_⟩
        try simp only [dIsNv, dRevO, dPar, dPar3, dTryB, bSeq, bIf, bCall, bNil, dAug, iR3, dMod0, xStar, dRepO, dExcA, dTryK, dIsx, lose, loseV, dSeq, dRet, dRetN, dIfS, dTst, dTru, dOp, dVar, dVarK, dC, dChain, dNot, dAnd, dOr, dAndE, dOrE, dNotE, dBoolE, dIf, dFn, dB, dTup, dLst, dO, xNil, xCons, dNext, dSet, dSetO, dRel, relE, dExpr, dCall, dCallO, dCons, dNil, dPurA, dAsg, gdName, gdNil, gdCons, gdTup, dForS, dCut, dCutO, dNoP, dPart, dCatO, dListO, dLc, wipeE, dApp, dIns, dSetIx, dRaise, dRetO, dRetOE, dCount, dRev, iL, iT, iS, iR1, iR2, iEL, iET, iZ, dYes, s_tb, s_tn, s_ti, s_tl, s_tt, s_dd, s_do, s_ll, s_lt, s_ls, s_ul, s_ut, s_isStr_none, s_isStr_bool, s_isStr_int, s_isStr_str, s_isStr_list, s_isStr_tuple, s_isTup_none, s_isTup_bool, s_isTup_int, s_isTup_str, s_isTup_list, s_isTup_tuple, s_isLst_none, s_isLst_bool, s_isLst_int, s_isLst_str, s_isLst_list, s_isLst_tuple, s_isInt_none, s_isInt_bool, s_isInt_int, s_isInt_str, s_isInt_list, s_isInt_tuple, s_isBool_none, s_isBool_bool, s_isBool_int, s_isBool_str, s_isBool_list, s_isBool_tuple, s_isN_none, s_isN_bool, s_isN_int, s_isN_str, s_isN_list, s_isN_tuple, s_is, s_isnt, s_xl, s_xt, s_xs, s_cl, s_ct, s_cs, s_add, s_sub, s_lti, s_lei, s_gti, s_gei, s_min, s_max, s_neg, s_abs, s_os, at0, at1, at2, eqD_int, neD_int, List.getElem?_cons_zero, List.getElem?_cons_succ, List.set_cons_zero, List.set_cons_succ, List.map_cons, List.map_nil, Bool.false_eq_true, Bool.not_true, Bool.not_false, ite_true, ite_false, if_true, if_false, true_and, and_true]
        refine dif (fun e => ?_) (fun e => ?_)
        · have e5 : lineD 1 (gs.length : Int) (ps.getD i .none) = false := nT e
          rw [e5, if_neg Bool.false_ne_true] at hF
          have e2 : wrongR (gs.length : Int) ps qs = .tuple [.str "prices", .int (i : Nat)] := by
            unfold wrongR
            rw [show firstF (lineD 1 (gs.length : Int)) 0 ps = some i from hF]
          rw [e2] at h'
          exact ⟨le_dn rfl, h'⟩
        · have e5 : lineD 1 (gs.length : Int) (ps.getD i .none) = true := nF e
          rw [e5, if_pos rfl] at hF
          exact hK _ _ ⟨⟨_, _, rfl⟩, rfl, hF⟩
      obtain ⟨⟨a, b, rfl⟩, rfl, hF⟩ := hI
      rw [List.length_range, List.drop_of_length_le (Nat.le_refl _)] at hF
      have e2 : wrongR (gs.length : Int) ps qs = wrongQ gs.length qs := by
        unfold wrongR
        rw [show firstF (lineD 1 (gs.length : Int)) 0 ps = none from hF]
      rw [e2] at h'
      try simp only [dIsNv, dRevO, dPar, dPar3, dTryB, bSeq, bIf, bCall, bNil, dAug, iR3, dMod0, xStar, dRepO, dExcA, dTryK, dIsx, lose, loseV, dSeq, dRet, dRetN, dIfS, dTst, dTru, dOp, dVar, dVarK, dC, dChain, dNot, dAnd, dOr, dAndE, dOrE, dNotE, dBoolE, dIf, dFn, dB, dTup, dLst, dO, xNil, xCons, dNext, dSet, dSetO, dRel, relE, dExpr, dCall, dCallO, dCons, dNil, dPurA, dAsg, gdName, gdNil, gdCons, gdTup, dForS, dCut, dCutO, dNoP, dPart, dCatO, dListO, dLc, wipeE, dApp, dIns, dSetIx, dRaise, dRetO, dRetOE, dCount, dRev, iL, iT, iS, iR1, iR2, iEL, iET, iZ, dYes, s_tb, s_tn, s_ti, s_tl, s_tt, s_dd, s_do, s_ll, s_lt, s_ls, s_ul, s_ut, s_isStr_none, s_isStr_bool, s_isStr_int, s_isStr_str, s_isStr_list, s_isStr_tuple, s_isTup_none, s_isTup_bool, s_isTup_int, s_isTup_str, s_isTup_list, s_isTup_tuple, s_isLst_none, s_isLst_bool, s_isLst_int, s_isLst_str, s_isLst_list, s_isLst_tuple, s_isInt_none, s_isInt_bool, s_isInt_int, s_isInt_str, s_isInt_list, s_isInt_tuple, s_isBool_none, s_isBool_bool, s_isBool_int, s_isBool_str, s_isBool_list, s_isBool_tuple, s_isN_none, s_isN_bool, s_isN_int, s_isN_str, s_isN_list, s_isN_tuple, s_is, s_isnt, s_xl, s_xt, s_xs, s_cl, s_ct, s_cs, s_add, s_sub, s_lti, s_lei, s_gti, s_gei, s_min, s_max, s_neg, s_abs, s_os, at0, at1, at2, eqD_int, neD_int, List.getElem?_cons_zero, List.getElem?_cons_succ, List.set_cons_zero, List.set_cons_succ, List.map_cons, List.map_nil, Bool.false_eq_true, Bool.not_true, Bool.not_false, ite_true, ite_false, if_true, if_false, true_and, and_true]
      refine dFor_map (fun (i : Nat) => PyData.tuple [.int i, qs.getD i .none]) (fun i E' T' => (∃ a b, E' = [.d (.tuple [.tuple gs, .list ps, .list qs]), .d (.tuple gs), .d (.list ps), .d (.list qs), a, b]) ∧ T = T' ∧ firstF (amtD gs.length) 0 qs = firstF (amtD gs.length) i (qs.drop i)) ⟨⟨_, _, rfl⟩, rfl, rfl⟩ (fun i i' E' T' K hi hI hK => ?_) (fun E' T' hI => ?_)
      · obtain ⟨⟨a, b, rfl⟩, rfl, hF⟩ := hI
        have hi2 : i < qs.length := by
          have := (List.getElem?_eq_some_iff.mp hi).1
          rw [List.length_range] at this
          exact this
        rw [List.getElem?_range hi2] at hi
        cases hi
        rw [drop_getD hi2, firstF_cons] at hF
        refine ⟨rfl, ?_⟩
        try simp only [dIsNv, dRevO, dPar, dPar3, dTryB, bSeq, bIf, bCall, bNil, dAug, iR3, dMod0, xStar, dRepO, dExcA, dTryK, dIsx, lose, loseV, dSeq, dRet, dRetN, dIfS, dTst, dTru, dOp, dVar, dVarK, dC, dChain, dNot, dAnd, dOr, dAndE, dOrE, dNotE, dBoolE, dIf, dFn, dB, dTup, dLst, dO, xNil, xCons, dNext, dSet, dSetO, dRel, relE, dExpr, dCall, dCallO, dCons, dNil, dPurA, dAsg, gdName, gdNil, gdCons, gdTup, dForS, dCut, dCutO, dNoP, dPart, dCatO, dListO, dLc, wipeE, dApp, dIns, dSetIx, dRaise, dRetO, dRetOE, dCount, dRev, iL, iT, iS, iR1, iR2, iEL, iET, iZ, dYes, s_tb, s_tn, s_ti, s_tl, s_tt, s_dd, s_do, s_ll, s_lt, s_ls, s_ul, s_ut, s_isStr_none, s_isStr_bool, s_isStr_int, s_isStr_str, s_isStr_list, s_isStr_tuple, s_isTup_none, s_isTup_bool, s_isTup_int, s_isTup_str, s_isTup_list, s_isTup_tuple, s_isLst_none, s_isLst_bool, s_isLst_int, s_isLst_str, s_isLst_list, s_isLst_tuple, s_isInt_none, s_isInt_bool, s_isInt_int, s_isInt_str, s_isInt_list, s_isInt_tuple, s_isBool_none, s_isBool_bool, s_isBool_int, s_isBool_str, s_isBool_list, s_isBool_tuple, s_isN_none, s_isN_bool, s_isN_int, s_isN_str, s_isN_list, s_isN_tuple, s_is, s_isnt, s_xl, s_xt, s_xs, s_cl, s_ct, s_cs, s_add, s_sub, s_lti, s_lei, s_gti, s_gei, s_min, s_max, s_neg, s_abs, s_os, at0, at1, at2, eqD_int, neD_int, List.getElem?_cons_zero, List.getElem?_cons_succ, List.set_cons_zero, List.set_cons_succ, List.map_cons, List.map_nil, Bool.false_eq_true, Bool.not_true, Bool.not_false, ite_true, ite_false, if_true, if_false, true_and, and_true]
        refine ⟨by omega, ?_⟩
        refine dif (fun e => ?_) (fun e => ?_)
        · have e5 : amtD (gs.length : Int) (qs.getD i .none) = false := nT e
          rw [e5, if_neg Bool.false_ne_true] at hF
          have e2 : wrongQ (gs.length : Int) qs = .tuple [.str "amounts", .int (i : Nat)] := by
            unfold wrongQ
            rw [show firstF (amtD (gs.length : Int)) 0 qs = some i from hF]
          rw [e2] at h'
          exact ⟨le_dn rfl, h'⟩
        · have e5 : amtD (gs.length : Int) (qs.getD i .none) = true := nF e
          rw [e5, if_pos rfl] at hF
          exact hK _ _ ⟨⟨_, _, rfl⟩, rfl, hF⟩
      obtain ⟨⟨a, b, rfl⟩, rfl, hF⟩ := hI
      rw [List.length_range, List.drop_of_length_le (Nat.le_refl _)] at hF
      have e3 : wrongQ (gs.length : Int) qs = .none := by
        unfold wrongQ
        rw [show firstF (amtD (gs.length : Int)) 0 qs = none from hF]
      rw [e3] at h'
      try simp only [dIsNv, dRevO, dPar, dPar3, dTryB, bSeq, bIf, bCall, bNil, dAug, iR3, dMod0, xStar, dRepO, dExcA, dTryK, dIsx, lose, loseV, dSeq, dRet, dRetN, dIfS, dTst, dTru, dOp, dVar, dVarK, dC, dChain, dNot, dAnd, dOr, dAndE, dOrE, dNotE, dBoolE, dIf, dFn, dB, dTup, dLst, dO, xNil, xCons, dNext, dSet, dSetO, dRel, relE, dExpr, dCall, dCallO, dCons, dNil, dPurA, dAsg, gdName, gdNil, gdCons, gdTup, dForS, dCut, dCutO, dNoP, dPart, dCatO, dListO, dLc, wipeE, dApp, dIns, dSetIx, dRaise, dRetO, dRetOE, dCount, dRev, iL, iT, iS, iR1, iR2, iEL, iET, iZ, dYes, s_tb, s_tn, s_ti, s_tl, s_tt, s_dd, s_do, s_ll, s_lt, s_ls, s_ul, s_ut, s_isStr_none, s_isStr_bool, s_isStr_int, s_isStr_str, s_isStr_list, s_isStr_tuple, s_isTup_none, s_isTup_bool, s_isTup_int, s_isTup_str, s_isTup_list, s_isTup_tuple, s_isLst_none, s_isLst_bool, s_isLst_int, s_isLst_str, s_isLst_list, s_isLst_tuple, s_isInt_none, s_isInt_bool, s_isInt_int, s_isInt_str, s_isInt_list, s_isInt_tuple, s_isBool_none, s_isBool_bool, s_isBool_int, s_isBool_str, s_isBool_list, s_isBool_tuple, s_isN_none, s_isN_bool, s_isN_int, s_isN_str, s_isN_list, s_isN_tuple, s_is, s_isnt, s_xl, s_xt, s_xs, s_cl, s_ct, s_cs, s_add, s_sub, s_lti, s_lei, s_gti, s_gei, s_min, s_max, s_neg, s_abs, s_os, at0, at1, at2, eqD_int, neD_int, List.getElem?_cons_zero, List.getElem?_cons_succ, List.set_cons_zero, List.set_cons_succ, List.map_cons, List.map_nil, Bool.false_eq_true, Bool.not_true, Bool.not_false, ite_true, ite_false, if_true, if_false, true_and, and_true]
      exact h'
    · exact h.elim

end
end Dv
set_option Elab.async false
set_option linter.all false
set_option maxRecDepth 100000
set_option maxHeartbeats 1000000
namespace Dv
open PySem PySem.Spec PyProof.Rows L2
def mlast : PyData → Int
  | .tuple [_, .list ps, _] => (ps.length : Int) - 1
  | _ => 0
def timesOk (m x y : PyData) : Bool := [x, y].all (withinD 0 (mlast m))
def wayOk (z : PyData) : Bool := PyData.eqv z (.str "old") || PyData.eqv z (.str "new")
def needW (C1 C2 C3 : Addr) (m x y z : PyData) (T : Nat) (Eh : DX → Prop) (P : Prop) : Prop := z.depth ≤ 64 ∧ (isN (mwrong m) = false → Eh ⟨C1, T⟩) ∧ (isN (mwrong m) = true → timesOk m x y = false → Eh ⟨C2, T⟩) ∧ (isN (mwrong m) = true → timesOk m x y = true → wayOk z = false → Eh ⟨C3, T⟩) ∧ (isN (mwrong m) = true → timesOk m x y = true → wayOk z = true → P)
theorem mw_split {m : PyData} (h : isN (mwrong m) = true) : ∃ gs ps qs, m = .tuple [.tuple gs, .list ps, .list qs] ∧ qs.length = ps.length ∧ 1 ≤ ps.length ∧ ps.length ≤ 24 ∧ 1 ≤ gs.length ∧ gs.length ≤ 8 ∧ nameD gs = true ∧ wrongR gs.length ps qs = .none := by
  cases hf : mkForm m with
  | false =>
    rw [mw_form hf] at h
    cases h
  | true =>
    obtain ⟨g, ps, qs, rfl, a1, a2, a3⟩ := mk_split hf
    cases hg : goodsD g with
    | false =>
      rw [mw_goods hf hg] at h
      cases h
    | true =>
      rw [mw_rest hf hg] at h
      obtain ⟨gs, rfl, g1, g8, gn⟩ := goods_split hg
      refine ⟨gs, ps, qs, rfl, a1, a2, a3, g1, g8, gn, ?_⟩
      have h' : isN (wrongR (gs.length : Int) ps qs) = true := h
      cases e : wrongR (gs.length : Int) ps qs with
      | none => rfl
      | _ => rw [e] at h'; cases h'
theorem ne_z {z : PyData} {s : Str} (h : z.depth ≤ 64) : neD z (.str s) = some (.bool (!PyData.eqv z (.str s))) := by
  unfold neD
  rw [if_pos ⟨h, by simp [PyData.depth]⟩]
theorem eq_z {z : PyData} {s : Str} (h : z.depth ≤ 64) : eqD z (.str s) = some (.bool (PyData.eqv z (.str s))) := by
  unfold eqD
  rw [if_pos ⟨h, by simp [PyData.depth]⟩]

abbrev s_needway : Stmt := topS 30
abbrev n_needway : List Str := ["market", "one", "other", "way", "time"]
theorem sc_needway : FnScope n_needway ["market", "one", "other", "way"] (defScope s_needway) := ⟨rfl, rfl, rfl, by decide +kernel, rfl, by decide +kernel, by decide +kernel⟩
def G_need_way (C1 C2 C3 : Addr) : DSp := fun as T Q Eh => match as with
  | [.d m, .d x, .d y, .d z] => needW C1 C2 C3 m x y z T Eh (Q (.d .none) T)
  | _ => False
section
variable {P : Program} {w : World} {K : PySem.W.Frag} {mg : Str → Option Value} {base : Heap}
theorem ok_needway {f c Pt : Addr} {fd : FuncData} {k : Nat} {tb : List Addr} {C_NoMarket : Addr} {C_NoTime : Addr} {C_NoWay : Addr} (F : FunC K "need_way" "need_way" s_needway f c fd) (TB : GxR.TabB base mg c Pt) (hP : Pt ∈ tb) (A_is_whole_within : AtD P w K mg base k tb "is_whole_within" ["thing", "least", "most"] (G_is_whole_within)) (A_market_wrong : AtD P w K mg base k tb "market_wrong" ["thing"] (G_market_wrong)) (m_all : mg "all" = none) (m_len : mg "len" = none) {t_NEW : Tok} (mc_NEW : mg "NEW" = some (.str "new" t_NEW)) {t_OLD : Tok} (mc_OLD : mg "OLD" = some (.str "old" t_OLD)) (X_NoMarket : OwnX K mg "NoMarket" C_NoMarket) (X_NoTime : OwnX K mg "NoTime" C_NoTime) (X_NoWay : OwnX K mg "NoWay" C_NoWay) : FnOk P w K mg base (L2.CX P w) (k + 2) f fd ["market", "one", "other", "way"] (spF K tb (G_need_way C_NoMarket C_NoTime C_NoWay)) := by
  refine fndCX F sc_needway (fun as T Q E h => ?_) (fun A outer s H E Eh hr => ⟨_, (pssd_cons (psd_if (ptd_cmp opd_isnt (PD.k (pd_call A_market_wrong (hr.mono (Nat.le_succ _)) (by rfl) (pad_cons (pd_var (pv 0)) pad_nil))) (PD.k pd_non) rfl) (pssd_one (psd_raise rfl (takes_of rfl rfl rfl rfl) (pmk_own PySem.F.excBase_ValueError X_NoMarket.x X_NoMarket.g X_NoMarket.k (raises_own X_NoMarket.b X_NoMarket.t) (by rfl)))) pssd_nil)
      (pssd_cons (psd_if (ptd_not (ptd_tru (PD.k (pd_all (own := [("time", 4)]) (γ := (gdName 4)) (te := (dCall (fun _ => False) G_is_whole_within (dCons (dVar 4) (dCons (dC (.int 0)) (dCons (dOp subD (dFn lenD (dOp ixD (dVarK 0) (dC (.int 1)))) (dC (.int 1))) dNil))))) (f := (iT (dTup (xCons (dVar 1) (xCons (dVar 2) xNil))))) hr (by rfl) m_all (by decide +kernel) TB hP rfl (show Gx.GenN n_needway (defScope s_needway) _ [("time", 4)] from ⟨rfl, rfl, by decide +kernel, rfl, by decide +kernel, by decide +kernel, by decide +kernel, by decide +kernel⟩) sc_needway.nd (pid_tup (pd_tup (pxd_cons (pd_var (pv 1)) (pxd_cons (pd_var (pv 2)) pxd_nil)))) (fun _ _ _ _ _ _ => (PGd.y (pgd_name (i := 4) sc_needway.nd rfl (.inl rfl)))) (fun _ _ _ _ _ _ hr' => (pd_call A_is_whole_within hr' (by rfl) (pad_cons (pd_var (pv 4)) (pad_cons pd_int (pad_cons (pd_op opd_sub (PD.k (pd_b1 cad_len (by rfl) m_len PySem.boot_len (PD.k (pd_ix (pk_var (pv 0)) (PD.k pd_int) (fun _ _ => rfl))))) (PD.k pd_int)) pad_nil))))) (fun _ => rfl))))) (pssd_one (psd_raise rfl (takes_of rfl rfl rfl rfl) (pmk_own PySem.F.excBase_ValueError X_NoTime.x X_NoTime.g X_NoTime.k (raises_own X_NoTime.b X_NoTime.t) (by rfl)))) pssd_nil)
      (pssd_one (psd_if (PWd.pt (pwd_and (ptd_cmp (opd_ne hr.units) (pk_var (pv 3)) (PD.k (pd_globS (by rfl) mc_OLD)) (nomark _)) (pwd_and1 (ptd_cmp (opd_ne hr.units) (pk_var (pv 3)) (PD.k (pd_globS (by rfl) mc_NEW)) (nomark _))))) (pssd_one (psd_raise rfl (takes_of rfl rfl rfl rfl) (pmk_own PySem.F.excBase_ValueError X_NoWay.x X_NoWay.g X_NoWay.k (raises_own X_NoWay.b X_NoWay.t) (by rfl)))) pssd_nil)))), fun as T Qh h => ?_⟩)
  · unfold G_need_way at h
    split at h
    · rfl
    · exact h.elim
  · unfold G_need_way at h
    split at h
    · rename_i m x y z
      obtain ⟨hd, h1, h2, h3, h4⟩ := h
      rw [show ∀ a0 a1 a2 a3, startE n_needway [a0, a1, a2, a3] = [a0, a1, a2, a3, .no] from fun _ _ _ _ => rfl]
      try simp only [dIsNv, dRevO, dPar, dPar3, dTryB, bSeq, bIf, bCall, bNil, dAug, iR3, dMod0, xStar, dRepO, dExcA, dTryK, dIsx, lose, loseV, dSeq, dRet, dRetN, dIfS, dTst, dTru, dOp, dVar, dVarK, dC, dChain, dNot, dAnd, dOr, dAndE, dOrE, dNotE, dBoolE, dIf, dFn, dB, dTup, dLst, dO, xNil, xCons, dNext, dSet, dSetO, dRel, relE, dExpr, dCall, dCallO, dCons, dNil, dPurA, dAsg, gdName, gdNil, gdCons, gdTup, dForS, dCut, dCutO, dNoP, dPart, dCatO, dListO, dLc, wipeE, dApp, dIns, dSetIx, dRaise, dRetO, dRetOE, dCount, dRev, iL, iT, iS, iR1, iR2, iEL, iET, iZ, dYes, s_tb, s_tn, s_ti, s_tl, s_tt, s_dd, s_do, s_ll, s_lt, s_ls, s_ul, s_ut, s_isStr_none, s_isStr_bool, s_isStr_int, s_isStr_str, s_isStr_list, s_isStr_tuple, s_isTup_none, s_isTup_bool, s_isTup_int, s_isTup_str, s_isTup_list, s_isTup_tuple, s_isLst_none, s_isLst_bool, s_isLst_int, s_isLst_str, s_isLst_list, s_isLst_tuple, s_isInt_none, s_isInt_bool, s_isInt_int, s_isInt_str, s_isInt_list, s_isInt_tuple, s_isBool_none, s_isBool_bool, s_isBool_int, s_isBool_str, s_isBool_list, s_isBool_tuple, s_isN_none, s_isN_bool, s_isN_int, s_isN_str, s_isN_list, s_isN_tuple, s_is, s_isnt, s_xl, s_xt, s_xs, s_cl, s_ct, s_cs, s_add, s_sub, s_lti, s_lei, s_gti, s_gei, s_min, s_max, s_neg, s_abs, s_os, at0, at1, at2, eqD_int, neD_int, List.getElem?_cons_zero, List.getElem?_cons_succ, List.set_cons_zero, List.set_cons_succ, List.map_cons, List.map_nil, Bool.false_eq_true, Bool.not_true, Bool.not_false, ite_true, ite_false, if_true, if_false, true_and, and_true]
      refine dif (fun e => h1 (nT e)) (fun e => ?_)
      have e1 : isN (mwrong m) = true := nF e
      obtain ⟨gs, ps, qs, rfl, l1, l2, l3, l4, l5, l6, l7⟩ := mw_split e1
      refine dAll_of [x, y] (withinD 0 ((ps.length : Int) - 1)) (fun R r => ⟨le_dn rfl, r⟩) ?_ ?_
      · intro v hv
        try simp only [dIsNv, dRevO, dPar, dPar3, dTryB, bSeq, bIf, bCall, bNil, dAug, iR3, dMod0, xStar, dRepO, dExcA, dTryK, dIsx, lose, loseV, dSeq, dRet, dRetN, dIfS, dTst, dTru, dOp, dVar, dVarK, dC, dChain, dNot, dAnd, dOr, dAndE, dOrE, dNotE, dBoolE, dIf, dFn, dB, dTup, dLst, dO, xNil, xCons, dNext, dSet, dSetO, dRel, relE, dExpr, dCall, dCallO, dCons, dNil, dPurA, dAsg, gdName, gdNil, gdCons, gdTup, dForS, dCut, dCutO, dNoP, dPart, dCatO, dListO, dLc, wipeE, dApp, dIns, dSetIx, dRaise, dRetO, dRetOE, dCount, dRev, iL, iT, iS, iR1, iR2, iEL, iET, iZ, dYes, s_tb, s_tn, s_ti, s_tl, s_tt, s_dd, s_do, s_ll, s_lt, s_ls, s_ul, s_ut, s_isStr_none, s_isStr_bool, s_isStr_int, s_isStr_str, s_isStr_list, s_isStr_tuple, s_isTup_none, s_isTup_bool, s_isTup_int, s_isTup_str, s_isTup_list, s_isTup_tuple, s_isLst_none, s_isLst_bool, s_isLst_int, s_isLst_str, s_isLst_list, s_isLst_tuple, s_isInt_none, s_isInt_bool, s_isInt_int, s_isInt_str, s_isInt_list, s_isInt_tuple, s_isBool_none, s_isBool_bool, s_isBool_int, s_isBool_str, s_isBool_list, s_isBool_tuple, s_isN_none, s_isN_bool, s_isN_int, s_isN_str, s_isN_list, s_isN_tuple, s_is, s_isnt, s_xl, s_xt, s_xs, s_cl, s_ct, s_cs, s_add, s_sub, s_lti, s_lei, s_gti, s_gei, s_min, s_max, s_neg, s_abs, s_os, at0, at1, at2, eqD_int, neD_int, List.getElem?_cons_zero, List.getElem?_cons_succ, List.set_cons_zero, List.set_cons_succ, List.map_cons, List.map_nil, Bool.false_eq_true, Bool.not_true, Bool.not_false, ite_true, ite_false, if_true, if_false, true_and, and_true]
        exact ⟨rfl, rfl⟩
      refine dif (fun e => h2 e1 (nT e)) (fun e => ?_)
      have e2 : timesOk (.tuple [.tuple gs, .list ps, .list qs]) x y = true := nF e
      rw [ne_z hd, ne_z hd]
      try simp only [dIsNv, dRevO, dPar, dPar3, dTryB, bSeq, bIf, bCall, bNil, dAug, iR3, dMod0, xStar, dRepO, dExcA, dTryK, dIsx, lose, loseV, dSeq, dRet, dRetN, dIfS, dTst, dTru, dOp, dVar, dVarK, dC, dChain, dNot, dAnd, dOr, dAndE, dOrE, dNotE, dBoolE, dIf, dFn, dB, dTup, dLst, dO, xNil, xCons, dNext, dSet, dSetO, dRel, relE, dExpr, dCall, dCallO, dCons, dNil, dPurA, dAsg, gdName, gdNil, gdCons, gdTup, dForS, dCut, dCutO, dNoP, dPart, dCatO, dListO, dLc, wipeE, dApp, dIns, dSetIx, dRaise, dRetO, dRetOE, dCount, dRev, iL, iT, iS, iR1, iR2, iEL, iET, iZ, dYes, s_tb, s_tn, s_ti, s_tl, s_tt, s_dd, s_do, s_ll, s_lt, s_ls, s_ul, s_ut, s_isStr_none, s_isStr_bool, s_isStr_int, s_isStr_str, s_isStr_list, s_isStr_tuple, s_isTup_none, s_isTup_bool, s_isTup_int, s_isTup_str, s_isTup_list, s_isTup_tuple, s_isLst_none, s_isLst_bool, s_isLst_int, s_isLst_str, s_isLst_list, s_isLst_tuple, s_isInt_none, s_isInt_bool, s_isInt_int, s_isInt_str, s_isInt_list, s_isInt_tuple, s_isBool_none, s_isBool_bool, s_isBool_int, s_isBool_str, s_isBool_list, s_isBool_tuple, s_isN_none, s_isN_bool, s_isN_int, s_isN_str, s_isN_list, s_isN_tuple, s_is, s_isnt, s_xl, s_xt, s_xs, s_cl, s_ct, s_cs, s_add, s_sub, s_lti, s_lei, s_gti, s_gei, s_min, s_max, s_neg, s_abs, s_os, at0, at1, at2, eqD_int, neD_int, List.getElem?_cons_zero, List.getElem?_cons_succ, List.set_cons_zero, List.set_cons_succ, List.map_cons, List.map_nil, Bool.false_eq_true, Bool.not_true, Bool.not_false, ite_true, ite_false, if_true, if_false, true_and, and_true]
      refine dif (fun e => ?_) (fun e => ?_)
      · refine dif (fun e' => h3 e1 e2 ?_) (fun e' => h4 e1 e2 ?_)
        · unfold wayOk
          rw [nT e, nT e']
          rfl
        · unfold wayOk
          rw [nF e', Bool.or_true]
      · refine h4 e1 e2 ?_
        unfold wayOk
        rw [nF e, Bool.true_or]
    · exact h.elim

end
abbrev s_amountsby : Stmt := topS 31
abbrev n_amountsby : List Str := ["market", "one", "other", "way"]
theorem sc_amountsby : FnScope n_amountsby ["market", "one", "other", "way"] (defScope s_amountsby) := ⟨rfl, rfl, rfl, by decide +kernel, rfl, by decide +kernel, by decide +kernel⟩
def G_amounts_by : DSp := fun as T Q _ => match as with
  | [.d m, .d x, .d y, .d z] => ∃ g ps qs, ∃ i j : Nat, m = .tuple [g, .list ps, .list qs] ∧ x = .int (i : Nat) ∧ y = .int (j : Nat) ∧ i < qs.length ∧ j < qs.length ∧ z.depth ≤ 64 ∧ Q (.d (qs.getD (if PyData.eqv z (.str "old") = true then i else j) .none)) T
  | _ => False
section
variable {P : Program} {w : World} {K : PySem.W.Frag} {mg : Str → Option Value} {base : Heap}
theorem ok_amountsby {f : Addr} {fd : FuncData} {k : Nat} {tb : List Addr} (F : Fun K "amounts_by" "amounts_by" s_amountsby f fd) {t_OLD : Tok} (mc_OLD : mg "OLD" = some (.str "old" t_OLD)) : FnOk P w K mg base (L2.CX P w) (k + 1) f fd ["market", "one", "other", "way"] (spF K tb (G_amounts_by)) := by
  refine fnd F sc_amountsby (fun as T Q E h => ?_) (fun cdv A outer s H E hr => ⟨_, (pssd_one (psd_ret (pd_if (ptd_cmp (opd_eq hr.units) (pk_var (pv 3)) (PD.k (pd_globS (by rfl) mc_OLD)) (nomark _)) (pd_ix (PD.k (pd_ix (pk_var (pv 0)) (PD.k pd_int) (fun _ _ => rfl))) (pk_var (pv 1)) (fun _ _ => rfl)) (pd_ix (PD.k (pd_ix (pk_var (pv 0)) (PD.k pd_int) (fun _ _ => rfl))) (pk_var (pv 2)) (fun _ _ => rfl))))), fun as T Qh Eh h => ?_⟩)
  · unfold G_amounts_by at h
    split at h
    · rfl
    · exact h.elim
  · unfold G_amounts_by at h
    split at h
    · rename_i m x y z
      obtain ⟨g, ps, qs, i, j, rfl, rfl, rfl, hi, hj, hd, h⟩ := h
      rw [show ∀ a0 a1 a2 a3, startE n_amountsby [a0, a1, a2, a3] = [a0, a1, a2, a3] from fun _ _ _ _ => rfl]
      try simp only [dIsNv, dRevO, dPar, dPar3, dTryB, bSeq, bIf, bCall, bNil, dAug, iR3, dMod0, xStar, dRepO, dExcA, dTryK, dIsx, lose, loseV, dSeq, dRet, dRetN, dIfS, dTst, dTru, dOp, dVar, dVarK, dC, dChain, dNot, dAnd, dOr, dAndE, dOrE, dNotE, dBoolE, dIf, dFn, dB, dTup, dLst, dO, xNil, xCons, dNext, dSet, dSetO, dRel, relE, dExpr, dCall, dCallO, dCons, dNil, dPurA, dAsg, gdName, gdNil, gdCons, gdTup, dForS, dCut, dCutO, dNoP, dPart, dCatO, dListO, dLc, wipeE, dApp, dIns, dSetIx, dRaise, dRetO, dRetOE, dCount, dRev, iL, iT, iS, iR1, iR2, iEL, iET, iZ, dYes, s_tb, s_tn, s_ti, s_tl, s_tt, s_dd, s_do, s_ll, s_lt, s_ls, s_ul, s_ut, s_isStr_none, s_isStr_bool, s_isStr_int, s_isStr_str, s_isStr_list, s_isStr_tuple, s_isTup_none, s_isTup_bool, s_isTup_int, s_isTup_str, s_isTup_list, s_isTup_tuple, s_isLst_none, s_isLst_bool, s_isLst_int, s_isLst_str, s_isLst_list, s_isLst_tuple, s_isInt_none, s_isInt_bool, s_isInt_int, s_isInt_str, s_isInt_list, s_isInt_tuple, s_isBool_none, s_isBool_bool, s_isBool_int, s_isBool_str, s_isBool_list, s_isBool_tuple, s_isN_none, s_isN_bool, s_isN_int, s_isN_str, s_isN_list, s_isN_tuple, s_is, s_isnt, s_xl, s_xt, s_xs, s_cl, s_ct, s_cs, s_add, s_sub, s_lti, s_lei, s_gti, s_gei, s_min, s_max, s_neg, s_abs, s_os, at0, at1, at2, eqD_int, neD_int, List.getElem?_cons_zero, List.getElem?_cons_succ, List.set_cons_zero, List.set_cons_succ, List.map_cons, List.map_nil, Bool.false_eq_true, Bool.not_true, Bool.not_false, ite_true, ite_false, if_true, if_false, true_and, and_true]
      rw [eq_z hd]
      have a1 : ∀ {n : Nat}, n < qs.length → atI qs (n : Int) = some (qs.getD n .none) := fun {n} hn => at_nat (by rw [List.getD_eq_getElem?_getD, List.getElem?_eq_getElem hn]; rfl)
      try simp only [dIsNv, dRevO, dPar, dPar3, dTryB, bSeq, bIf, bCall, bNil, dAug, iR3, dMod0, xStar, dRepO, dExcA, dTryK, dIsx, lose, loseV, dSeq, dRet, dRetN, dIfS, dTst, dTru, dOp, dVar, dVarK, dC, dChain, dNot, dAnd, dOr, dAndE, dOrE, dNotE, dBoolE, dIf, dFn, dB, dTup, dLst, dO, xNil, xCons, dNext, dSet, dSetO, dRel, relE, dExpr, dCall, dCallO, dCons, dNil, dPurA, dAsg, gdName, gdNil, gdCons, gdTup, dForS, dCut, dCutO, dNoP, dPart, dCatO, dListO, dLc, wipeE, dApp, dIns, dSetIx, dRaise, dRetO, dRetOE, dCount, dRev, iL, iT, iS, iR1, iR2, iEL, iET, iZ, dYes, s_tb, s_tn, s_ti, s_tl, s_tt, s_dd, s_do, s_ll, s_lt, s_ls, s_ul, s_ut, s_isStr_none, s_isStr_bool, s_isStr_int, s_isStr_str, s_isStr_list, s_isStr_tuple, s_isTup_none, s_isTup_bool, s_isTup_int, s_isTup_str, s_isTup_list, s_isTup_tuple, s_isLst_none, s_isLst_bool, s_isLst_int, s_isLst_str, s_isLst_list, s_isLst_tuple, s_isInt_none, s_isInt_bool, s_isInt_int, s_isInt_str, s_isInt_list, s_isInt_tuple, s_isBool_none, s_isBool_bool, s_isBool_int, s_isBool_str, s_isBool_list, s_isBool_tuple, s_isN_none, s_isN_bool, s_isN_int, s_isN_str, s_isN_list, s_isN_tuple, s_is, s_isnt, s_xl, s_xt, s_xs, s_cl, s_ct, s_cs, s_add, s_sub, s_lti, s_lei, s_gti, s_gei, s_min, s_max, s_neg, s_abs, s_os, at0, at1, at2, eqD_int, neD_int, List.getElem?_cons_zero, List.getElem?_cons_succ, List.set_cons_zero, List.set_cons_succ, List.map_cons, List.map_nil, Bool.false_eq_true, Bool.not_true, Bool.not_false, ite_true, ite_false, if_true, if_false, true_and, and_true]
      refine dif (fun e => ?_) (fun e => ?_)
      · rw [if_pos e] at h
        rw [a1 hi]
        exact h
      · rw [if_neg (by rw [e]; exact Bool.false_ne_true)] at h
        rw [a1 hj]
        exact h
    · exact h.elim

end
end Dv
set_option Elab.async false
set_option linter.all false
set_option maxRecDepth 100000
set_option maxHeartbeats 1000000
namespace Dv
open PySem PySem.Spec PyProof.Rows L2
def intsL (ns : List Int) : PyData := .list (ns.map PyData.int)
def mkD (gs : List PyData) (P A : List (List Int)) : PyData := .tuple [.tuple gs, .list (P.map intsL), .list (A.map intsL)]
structure GoodM (gs : List PyData) (P A : List (List Int)) : Prop where
  g1 : 1 ≤ gs.length
  g8 : gs.length ≤ 8
  gn : nameD gs = true
  l1 : 1 ≤ P.length
  l24 : P.length ≤ 24
  la : A.length = P.length
  pr : ∀ p ∈ P, p.length = gs.length ∧ ∀ n ∈ p, 1 ≤ n ∧ n ≤ 1000000
  am : ∀ a ∈ A, a.length = gs.length ∧ (∀ n ∈ a, 0 ≤ n ∧ n ≤ 1000000) ∧ ∃ n ∈ a, 0 < n
theorem lines_of {lo n : Int} : ∀ {ds : List PyData}, (∀ d ∈ ds, lineD lo n d = true) → ∃ P : List (List Int), ds = P.map intsL ∧ ∀ p ∈ P, (p.length : Int) = n ∧ ∀ v ∈ p, lo ≤ v ∧ v ≤ 1000000
  | [], _ => ⟨[], rfl, fun p hp => by simp at hp⟩
  | d :: r, h => by
    obtain ⟨P, e, hP⟩ := lines_of fun x hx => h x (List.mem_cons_of_mem _ hx)
    have hd := h d List.mem_cons_self
    unfold lineD at hd
    split at hd
    · rename_i ds
      rw [Bool.and_eq_true, decide_eq_true_iff] at hd
      obtain ⟨ns, rfl⟩ := within_map hd.2
      refine ⟨ns :: P, by rw [List.map_cons, e]; rfl, fun p hp => ?_⟩
      rcases List.mem_cons.mp hp with rfl | hp
      · refine ⟨by have := hd.1; rw [List.length_map] at this; exact this, fun v hv => ?_⟩
        have := List.all_eq_true.mp hd.2 (.int v) (List.mem_map.mpr ⟨v, hv, rfl⟩)
        have h2 : (decide (lo ≤ v) && decide (v ≤ 1000000)) = true := this
        rw [Bool.and_eq_true, decide_eq_true_iff, decide_eq_true_iff] at h2
        exact h2
      · exact hP p hp
    · cases hd
theorem mw_good {m : PyData} (h : isN (mwrong m) = true) : ∃ gs P A, m = mkD gs P A ∧ GoodM gs P A := by
  obtain ⟨gs, ps, qs, rfl, a1, a2, a3, g1, g8, gn, hw⟩ := mw_split h
  unfold wrongR at hw
  split at hw
  · cases hw
  · rename_i e1
    unfold wrongQ at hw
    split at hw
    · cases hw
    · rename_i e2
      have h1 := firstF_none e1
      have h2 := firstF_none e2
      obtain ⟨P, rfl, hP⟩ := lines_of h1
      have h3 : ∀ d ∈ qs, lineD 0 (gs.length : Int) d = true := fun d hd => by
        have := h2 d hd
        unfold amtD at this
        split at this
        · rw [Bool.and_eq_true] at this
          exact this.1
        · cases this
      obtain ⟨A, rfl, hA⟩ := lines_of h3
      refine ⟨gs, P, A, rfl, g1, g8, gn, by rw [List.length_map] at a2; exact a2, by rw [List.length_map] at a3; exact a3, by rw [List.length_map, List.length_map] at a1; exact a1, fun p hp => ⟨by have := (hP p hp).1; omega, (hP p hp).2⟩, fun a ha => ⟨by have := (hA a ha).1; omega, (hA a ha).2, ?_⟩⟩
      have h4 := h2 (intsL a) (List.mem_map.mpr ⟨a, ha, rfl⟩)
      have h5 : (lineD 0 (gs.length : Int) (.list (a.map PyData.int)) && (a.map PyData.int).any posD) = true := h4
      rw [Bool.and_eq_true] at h5
      obtain ⟨d, hd, hp⟩ := List.any_eq_true.mp h5.2
      obtain ⟨n, hn, rfl⟩ := List.mem_map.mp hd
      exact ⟨n, hn, of_decide_eq_true hp⟩
theorem sum_le {B : Int} : ∀ {ns : List Int}, (∀ n ∈ ns, 0 ≤ n ∧ n ≤ B) → 0 ≤ ns.sum ∧ ns.sum ≤ ns.length * B
  | [], _ => by simp
  | n :: r, h => by
    have h1 := h n List.mem_cons_self
    have h2 := sum_le fun x hx => h x (List.mem_cons_of_mem _ hx)
    rw [List.sum_cons, List.length_cons, Int.natCast_add, Int.add_mul]
    omega
theorem sum_pos {ns : List Int} (h : ∀ n ∈ ns, 0 ≤ n) (g : ∃ n ∈ ns, 0 < n) : 0 < ns.sum := by
  induction ns with
  | nil =>
    obtain ⟨n, hn, _⟩ := g
    simp at hn
  | cons a r ih =>
    have h0 : 0 ≤ r.sum := by
      clear ih g
      induction r with
      | nil => simp
      | cons b s ih2 =>
        have := ih2 fun n hn => h n (by rcases List.mem_cons.mp hn with rfl | hn; exact List.mem_cons_self; exact List.mem_cons_of_mem _ (List.mem_cons_of_mem _ hn))
        have := h b (List.mem_cons_of_mem _ List.mem_cons_self)
        rw [List.sum_cons]
        omega
    have ha := h a List.mem_cons_self
    obtain ⟨n, hn, hp⟩ := g
    rw [List.sum_cons]
    rcases List.mem_cons.mp hn with rfl | hn
    · omega
    · have := ih (fun n hn => h n (List.mem_cons_of_mem _ hn)) ⟨n, hn, hp⟩
      omega
theorem getD_mem {ns : List Int} {j : Nat} (h : j < ns.length) : ns.getD j 0 ∈ ns := by
  rw [List.getD_eq_getElem?_getD, List.getElem?_eq_getElem h]
  exact List.getElem_mem h
theorem dot_ok {gs : List PyData} {P A : List (List Int)} (g : GoodM gs P A) {p a : List Int} (hp : p ∈ P) (ha : a ∈ A) : 0 < dotD p a ∧ dotD p a ≤ 8000000000000 := by
  obtain ⟨p1, p2⟩ := g.pr p hp
  obtain ⟨a1, a2, n, hn, n0⟩ := g.am a ha
  have g8 := g.g8
  have term : ∀ j, j < p.length → 0 ≤ p.getD j 0 * a.getD j 0 ∧ p.getD j 0 * a.getD j 0 ≤ 1000000000000 := fun j hj => by
    have h1 := p2 _ (getD_mem hj)
    have h2 := a2 _ (getD_mem (show j < a.length by omega))
    refine ⟨Int.mul_nonneg (by omega) h2.1, ?_⟩
    have := Int.mul_le_mul h1.2 h2.2 h2.1 (by decide)
    exact this
  unfold dotD
  refine ⟨sum_pos (fun n hn => ?_) ?_, ?_⟩
  · obtain ⟨j, hj, rfl⟩ := List.mem_map.mp hn
    exact (term j (List.mem_range.mp hj)).1
  · obtain ⟨j, hj, rfl⟩ := List.mem_iff_getElem.mp hn
    refine ⟨_, List.mem_map.mpr ⟨j, List.mem_range.mpr (by omega), rfl⟩, ?_⟩
    have h1 := p2 _ (getD_mem (show j < p.length by omega))
    have e : a.getD j 0 = a[j] := by rw [List.getD_eq_getElem?_getD, List.getElem?_eq_getElem hj]; rfl
    rw [e]
    exact Int.mul_pos (by omega) n0
  · have := (sum_le (B := 1000000000000) (ns := (List.range p.length).map fun j => p.getD j 0 * a.getD j 0) fun n hn => by
      obtain ⟨j, hj, rfl⟩ := List.mem_map.mp hn
      exact term j (List.mem_range.mp hj)).2
    rw [List.length_map, List.length_range] at this
    omega
def wayIx (z : PyData) (i j : Nat) : Nat := if PyData.eqv z (.str "old") = true then i else j
def numQ (P A : List (List Int)) (i j : Nat) (z : PyData) : Rat := Rat.divInt (dotD (P.getD j []) (A.getD (wayIx z i j) [])) (dotD (P.getD i []) (A.getD (wayIx z i j) []))
theorem mapL_getD {A : List (List Int)} {i : Nat} (h : i < A.length) : (A.map intsL).getD i .none = intsL (A.getD i []) := by
  rw [List.getD_eq_getElem?_getD, List.getElem?_map, List.getElem?_eq_getElem h, List.getD_eq_getElem?_getD, List.getElem?_eq_getElem h]
  rfl
theorem getL_mem {A : List (List Int)} {i : Nat} (h : i < A.length) : A.getD i [] ∈ A := by
  rw [List.getD_eq_getElem?_getD, List.getElem?_eq_getElem h]
  exact List.getElem_mem h
theorem atL {A : List (List Int)} {i : Nat} (h : i < A.length) : atI (A.map intsL) (i : Int) = some (intsL (A.getD i [])) := at_nat (by
  rw [List.getElem?_map, List.getElem?_eq_getElem h, List.getD_eq_getElem?_getD, List.getElem?_eq_getElem h]
  rfl)
theorem wayIx_lt {z : PyData} {i j n : Nat} (h : i < n) (g : j < n) : wayIx z i j < n := by
  unfold wayIx
  split <;> assumption

abbrev s_numberof : Stmt := topS 33
abbrev n_numberof : List Str := ["market", "one", "other", "way", "prices", "amounts"]
theorem sc_numberof : FnScope n_numberof ["market", "one", "other", "way"] (defScope s_numberof) := ⟨rfl, rfl, rfl, by decide +kernel, rfl, by decide +kernel, by decide +kernel⟩
def G_number_of : DSp := fun as T Q _ => match as with
  | [.d m, .d x, .d y, .d z] => ∃ gs P A, ∃ i j : Nat, m = mkD gs P A ∧ x = .int (i : Nat) ∧ y = .int (j : Nat) ∧ GoodM gs P A ∧ i < P.length ∧ j < P.length ∧ z.depth ≤ 64 ∧ Q (.d (frD (numQ P A i j z))) T
  | _ => False
section
variable {P : Program} {w : World} {K : PySem.W.Frag} {mg : Str → Option Value} {base : Heap}
theorem ok_numberof {f : Addr} {fd : FuncData} {k : Nat} {tb : List Addr} (F : Fun K "number_of" "number_of" s_numberof f fd) (A_amounts_by : AtD P w K mg base k tb "amounts_by" ["market", "one", "other", "way"] (G_amounts_by)) (A_come_to_at : AtD P w K mg base k tb "come_to_at" ["prices", "amounts"] (G_come_to_at)) (A_fraction : AtD P w K mg base k tb "fraction" ["top", "bottom"] (G_fraction)) : FnOk P w K mg base (L2.CX P w) (k + 1) f fd ["market", "one", "other", "way"] (spF K tb (G_number_of)) := by
  refine fnd F sc_numberof (fun as T Q E h => ?_) (fun cdv A outer s H E hr => ⟨_, (pssd_cons (psd_set (i := 4) sc_numberof.nd rfl (.inl rfl) (pd_ix (pk_var (pv 0)) (PD.k pd_int) (fun _ _ => rfl)))
      (pssd_cons (psd_set (i := 5) sc_numberof.nd rfl (.inl rfl) (pd_call A_amounts_by hr (by rfl) (pad_cons (pd_var (pv 0)) (pad_cons (pd_var (pv 1)) (pad_cons (pd_var (pv 2)) (pad_cons (pd_var (pv 3)) pad_nil))))))
      (pssd_one (psd_ret (pd_call A_fraction hr (by rfl) (pad_cons (pd_call A_come_to_at hr (by rfl) (pad_cons (pd_ix (pk_var (pv 4)) (pk_var (pv 2)) (fun _ _ => rfl)) (pad_cons (pd_var (pv 5)) pad_nil))) (pad_cons (pd_call A_come_to_at hr (by rfl) (pad_cons (pd_ix (pk_var (pv 4)) (pk_var (pv 1)) (fun _ _ => rfl)) (pad_cons (pd_var (pv 5)) pad_nil))) pad_nil))))))), fun as T Qh Eh h => ?_⟩)
  · unfold G_number_of at h
    split at h
    · rfl
    · exact h.elim
  · unfold G_number_of at h
    split at h
    · rename_i m x y z
      obtain ⟨gs, P, A, i, j, rfl, rfl, rfl, g, hi, hj, hd, h⟩ := h
      have la := g.la
      have hw : wayIx z i j < A.length := wayIx_lt (by omega) (by omega)
      unfold mkD
      rw [show ∀ a0 a1 a2 a3, startE n_numberof [a0, a1, a2, a3] = [a0, a1, a2, a3, .no, .no] from fun _ _ _ _ => rfl]
      try simp only [dIsNv, dRevO, dPar, dPar3, dTryB, bSeq, bIf, bCall, bNil, dAug, iR3, dMod0, xStar, dRepO, dExcA, dTryK, dIsx, lose, loseV, dSeq, dRet, dRetN, dIfS, dTst, dTru, dOp, dVar, dVarK, dC, dChain, dNot, dAnd, dOr, dAndE, dOrE, dNotE, dBoolE, dIf, dFn, dB, dTup, dLst, dO, xNil, xCons, dNext, dSet, dSetO, dRel, relE, dExpr, dCall, dCallO, dCons, dNil, dPurA, dAsg, gdName, gdNil, gdCons, gdTup, dForS, dCut, dCutO, dNoP, dPart, dCatO, dListO, dLc, wipeE, dApp, dIns, dSetIx, dRaise, dRetO, dRetOE, dCount, dRev, iL, iT, iS, iR1, iR2, iEL, iET, iZ, dYes, s_tb, s_tn, s_ti, s_tl, s_tt, s_dd, s_do, s_ll, s_lt, s_ls, s_ul, s_ut, s_isStr_none, s_isStr_bool, s_isStr_int, s_isStr_str, s_isStr_list, s_isStr_tuple, s_isTup_none, s_isTup_bool, s_isTup_int, s_isTup_str, s_isTup_list, s_isTup_tuple, s_isLst_none, s_isLst_bool, s_isLst_int, s_isLst_str, s_isLst_list, s_isLst_tuple, s_isInt_none, s_isInt_bool, s_isInt_int, s_isInt_str, s_isInt_list, s_isInt_tuple, s_isBool_none, s_isBool_bool, s_isBool_int, s_isBool_str, s_isBool_list, s_isBool_tuple, s_isN_none, s_isN_bool, s_isN_int, s_isN_str, s_isN_list, s_isN_tuple, s_is, s_isnt, s_xl, s_xt, s_xs, s_cl, s_ct, s_cs, s_add, s_sub, s_lti, s_lei, s_gti, s_gei, s_min, s_max, s_neg, s_abs, s_os, at0, at1, at2, eqD_int, neD_int, List.getElem?_cons_zero, List.getElem?_cons_succ, List.set_cons_zero, List.set_cons_succ, List.map_cons, List.map_nil, Bool.false_eq_true, Bool.not_true, Bool.not_false, ite_true, ite_false, if_true, if_false, true_and, and_true]
      refine ⟨.tuple gs, P.map intsL, A.map intsL, i, j, rfl, rfl, rfl, by rw [List.length_map]; omega, by rw [List.length_map]; omega, hd, ?_⟩
      rw [show (A.map intsL).getD (if PyData.eqv z (.str "old") = true then i else j) .none = intsL (A.getD (wayIx z i j) []) from mapL_getD hw]
      try simp only [dIsNv, dRevO, dPar, dPar3, dTryB, bSeq, bIf, bCall, bNil, dAug, iR3, dMod0, xStar, dRepO, dExcA, dTryK, dIsx, lose, loseV, dSeq, dRet, dRetN, dIfS, dTst, dTru, dOp, dVar, dVarK, dC, dChain, dNot, dAnd, dOr, dAndE, dOrE, dNotE, dBoolE, dIf, dFn, dB, dTup, dLst, dO, xNil, xCons, dNext, dSet, dSetO, dRel, relE, dExpr, dCall, dCallO, dCons, dNil, dPurA, dAsg, gdName, gdNil, gdCons, gdTup, dForS, dCut, dCutO, dNoP, dPart, dCatO, dListO, dLc, wipeE, dApp, dIns, dSetIx, dRaise, dRetO, dRetOE, dCount, dRev, iL, iT, iS, iR1, iR2, iEL, iET, iZ, dYes, s_tb, s_tn, s_ti, s_tl, s_tt, s_dd, s_do, s_ll, s_lt, s_ls, s_ul, s_ut, s_isStr_none, s_isStr_bool, s_isStr_int, s_isStr_str, s_isStr_list, s_isStr_tuple, s_isTup_none, s_isTup_bool, s_isTup_int, s_isTup_str, s_isTup_list, s_isTup_tuple, s_isLst_none, s_isLst_bool, s_isLst_int, s_isLst_str, s_isLst_list, s_isLst_tuple, s_isInt_none, s_isInt_bool, s_isInt_int, s_isInt_str, s_isInt_list, s_isInt_tuple, s_isBool_none, s_isBool_bool, s_isBool_int, s_isBool_str, s_isBool_list, s_isBool_tuple, s_isN_none, s_isN_bool, s_isN_int, s_isN_str, s_isN_list, s_isN_tuple, s_is, s_isnt, s_xl, s_xt, s_xs, s_cl, s_ct, s_cs, s_add, s_sub, s_lti, s_lei, s_gti, s_gei, s_min, s_max, s_neg, s_abs, s_os, at0, at1, at2, eqD_int, neD_int, List.getElem?_cons_zero, List.getElem?_cons_succ, List.set_cons_zero, List.set_cons_succ, List.map_cons, List.map_nil, Bool.false_eq_true, Bool.not_true, Bool.not_false, ite_true, ite_false, if_true, if_false, true_and, and_true]
      have ma := getL_mem hw
      have mi := getL_mem hi
      have mj := getL_mem hj
      have ba : ∀ q ∈ A.getD (wayIx z i j) [], q.natAbs ≤ 1000000000000 := fun q hq => by
        have := (g.am _ ma).2.1 q hq
        omega
      have bp : ∀ {n : Nat}, n < P.length → ∀ q ∈ P.getD n [], q.natAbs ≤ 1000000000000 := fun {n} hn q hq => by
        have := (g.pr _ (getL_mem hn)).2 q hq
        omega
      rw [atL hj]
      try simp only [dIsNv, dRevO, dPar, dPar3, dTryB, bSeq, bIf, bCall, bNil, dAug, iR3, dMod0, xStar, dRepO, dExcA, dTryK, dIsx, lose, loseV, dSeq, dRet, dRetN, dIfS, dTst, dTru, dOp, dVar, dVarK, dC, dChain, dNot, dAnd, dOr, dAndE, dOrE, dNotE, dBoolE, dIf, dFn, dB, dTup, dLst, dO, xNil, xCons, dNext, dSet, dSetO, dRel, relE, dExpr, dCall, dCallO, dCons, dNil, dPurA, dAsg, gdName, gdNil, gdCons, gdTup, dForS, dCut, dCutO, dNoP, dPart, dCatO, dListO, dLc, wipeE, dApp, dIns, dSetIx, dRaise, dRetO, dRetOE, dCount, dRev, iL, iT, iS, iR1, iR2, iEL, iET, iZ, dYes, s_tb, s_tn, s_ti, s_tl, s_tt, s_dd, s_do, s_ll, s_lt, s_ls, s_ul, s_ut, s_isStr_none, s_isStr_bool, s_isStr_int, s_isStr_str, s_isStr_list, s_isStr_tuple, s_isTup_none, s_isTup_bool, s_isTup_int, s_isTup_str, s_isTup_list, s_isTup_tuple, s_isLst_none, s_isLst_bool, s_isLst_int, s_isLst_str, s_isLst_list, s_isLst_tuple, s_isInt_none, s_isInt_bool, s_isInt_int, s_isInt_str, s_isInt_list, s_isInt_tuple, s_isBool_none, s_isBool_bool, s_isBool_int, s_isBool_str, s_isBool_list, s_isBool_tuple, s_isN_none, s_isN_bool, s_isN_int, s_isN_str, s_isN_list, s_isN_tuple, s_is, s_isnt, s_xl, s_xt, s_xs, s_cl, s_ct, s_cs, s_add, s_sub, s_lti, s_lei, s_gti, s_gei, s_min, s_max, s_neg, s_abs, s_os, at0, at1, at2, eqD_int, neD_int, List.getElem?_cons_zero, List.getElem?_cons_succ, List.set_cons_zero, List.set_cons_succ, List.map_cons, List.map_nil, Bool.false_eq_true, Bool.not_true, Bool.not_false, ite_true, ite_false, if_true, if_false, true_and, and_true]
      refine ⟨P.getD j [], A.getD (wayIx z i j) [], rfl, rfl, by rw [(g.pr _ mj).1, (g.am _ ma).1], bp hj, ba, ?_⟩
      try simp only [dIsNv, dRevO, dPar, dPar3, dTryB, bSeq, bIf, bCall, bNil, dAug, iR3, dMod0, xStar, dRepO, dExcA, dTryK, dIsx, lose, loseV, dSeq, dRet, dRetN, dIfS, dTst, dTru, dOp, dVar, dVarK, dC, dChain, dNot, dAnd, dOr, dAndE, dOrE, dNotE, dBoolE, dIf, dFn, dB, dTup, dLst, dO, xNil, xCons, dNext, dSet, dSetO, dRel, relE, dExpr, dCall, dCallO, dCons, dNil, dPurA, dAsg, gdName, gdNil, gdCons, gdTup, dForS, dCut, dCutO, dNoP, dPart, dCatO, dListO, dLc, wipeE, dApp, dIns, dSetIx, dRaise, dRetO, dRetOE, dCount, dRev, iL, iT, iS, iR1, iR2, iEL, iET, iZ, dYes, s_tb, s_tn, s_ti, s_tl, s_tt, s_dd, s_do, s_ll, s_lt, s_ls, s_ul, s_ut, s_isStr_none, s_isStr_bool, s_isStr_int, s_isStr_str, s_isStr_list, s_isStr_tuple, s_isTup_none, s_isTup_bool, s_isTup_int, s_isTup_str, s_isTup_list, s_isTup_tuple, s_isLst_none, s_isLst_bool, s_isLst_int, s_isLst_str, s_isLst_list, s_isLst_tuple, s_isInt_none, s_isInt_bool, s_isInt_int, s_isInt_str, s_isInt_list, s_isInt_tuple, s_isBool_none, s_isBool_bool, s_isBool_int, s_isBool_str, s_isBool_list, s_isBool_tuple, s_isN_none, s_isN_bool, s_isN_int, s_isN_str, s_isN_list, s_isN_tuple, s_is, s_isnt, s_xl, s_xt, s_xs, s_cl, s_ct, s_cs, s_add, s_sub, s_lti, s_lei, s_gti, s_gei, s_min, s_max, s_neg, s_abs, s_os, at0, at1, at2, eqD_int, neD_int, List.getElem?_cons_zero, List.getElem?_cons_succ, List.set_cons_zero, List.set_cons_succ, List.map_cons, List.map_nil, Bool.false_eq_true, Bool.not_true, Bool.not_false, ite_true, ite_false, if_true, if_false, true_and, and_true]
      rw [atL hi]
      try simp only [dIsNv, dRevO, dPar, dPar3, dTryB, bSeq, bIf, bCall, bNil, dAug, iR3, dMod0, xStar, dRepO, dExcA, dTryK, dIsx, lose, loseV, dSeq, dRet, dRetN, dIfS, dTst, dTru, dOp, dVar, dVarK, dC, dChain, dNot, dAnd, dOr, dAndE, dOrE, dNotE, dBoolE, dIf, dFn, dB, dTup, dLst, dO, xNil, xCons, dNext, dSet, dSetO, dRel, relE, dExpr, dCall, dCallO, dCons, dNil, dPurA, dAsg, gdName, gdNil, gdCons, gdTup, dForS, dCut, dCutO, dNoP, dPart, dCatO, dListO, dLc, wipeE, dApp, dIns, dSetIx, dRaise, dRetO, dRetOE, dCount, dRev, iL, iT, iS, iR1, iR2, iEL, iET, iZ, dYes, s_tb, s_tn, s_ti, s_tl, s_tt, s_dd, s_do, s_ll, s_lt, s_ls, s_ul, s_ut, s_isStr_none, s_isStr_bool, s_isStr_int, s_isStr_str, s_isStr_list, s_isStr_tuple, s_isTup_none, s_isTup_bool, s_isTup_int, s_isTup_str, s_isTup_list, s_isTup_tuple, s_isLst_none, s_isLst_bool, s_isLst_int, s_isLst_str, s_isLst_list, s_isLst_tuple, s_isInt_none, s_isInt_bool, s_isInt_int, s_isInt_str, s_isInt_list, s_isInt_tuple, s_isBool_none, s_isBool_bool, s_isBool_int, s_isBool_str, s_isBool_list, s_isBool_tuple, s_isN_none, s_isN_bool, s_isN_int, s_isN_str, s_isN_list, s_isN_tuple, s_is, s_isnt, s_xl, s_xt, s_xs, s_cl, s_ct, s_cs, s_add, s_sub, s_lti, s_lei, s_gti, s_gei, s_min, s_max, s_neg, s_abs, s_os, at0, at1, at2, eqD_int, neD_int, List.getElem?_cons_zero, List.getElem?_cons_succ, List.set_cons_zero, List.set_cons_succ, List.map_cons, List.map_nil, Bool.false_eq_true, Bool.not_true, Bool.not_false, ite_true, ite_false, if_true, if_false, true_and, and_true]
      refine ⟨P.getD i [], A.getD (wayIx z i j) [], rfl, rfl, by rw [(g.pr _ mi).1, (g.am _ ma).1], bp hi, ba, ?_⟩
      have d1 := dot_ok g mj ma
      have d2 := dot_ok g mi ma
      try simp only [dIsNv, dRevO, dPar, dPar3, dTryB, bSeq, bIf, bCall, bNil, dAug, iR3, dMod0, xStar, dRepO, dExcA, dTryK, dIsx, lose, loseV, dSeq, dRet, dRetN, dIfS, dTst, dTru, dOp, dVar, dVarK, dC, dChain, dNot, dAnd, dOr, dAndE, dOrE, dNotE, dBoolE, dIf, dFn, dB, dTup, dLst, dO, xNil, xCons, dNext, dSet, dSetO, dRel, relE, dExpr, dCall, dCallO, dCons, dNil, dPurA, dAsg, gdName, gdNil, gdCons, gdTup, dForS, dCut, dCutO, dNoP, dPart, dCatO, dListO, dLc, wipeE, dApp, dIns, dSetIx, dRaise, dRetO, dRetOE, dCount, dRev, iL, iT, iS, iR1, iR2, iEL, iET, iZ, dYes, s_tb, s_tn, s_ti, s_tl, s_tt, s_dd, s_do, s_ll, s_lt, s_ls, s_ul, s_ut, s_isStr_none, s_isStr_bool, s_isStr_int, s_isStr_str, s_isStr_list, s_isStr_tuple, s_isTup_none, s_isTup_bool, s_isTup_int, s_isTup_str, s_isTup_list, s_isTup_tuple, s_isLst_none, s_isLst_bool, s_isLst_int, s_isLst_str, s_isLst_list, s_isLst_tuple, s_isInt_none, s_isInt_bool, s_isInt_int, s_isInt_str, s_isInt_list, s_isInt_tuple, s_isBool_none, s_isBool_bool, s_isBool_int, s_isBool_str, s_isBool_list, s_isBool_tuple, s_isN_none, s_isN_bool, s_isN_int, s_isN_str, s_isN_list, s_isN_tuple, s_is, s_isnt, s_xl, s_xt, s_xs, s_cl, s_ct, s_cs, s_add, s_sub, s_lti, s_lei, s_gti, s_gei, s_min, s_max, s_neg, s_abs, s_os, at0, at1, at2, eqD_int, neD_int, List.getElem?_cons_zero, List.getElem?_cons_succ, List.set_cons_zero, List.set_cons_succ, List.map_cons, List.map_nil, Bool.false_eq_true, Bool.not_true, Bool.not_false, ite_true, ite_false, if_true, if_false, true_and, and_true]
      have b8 : ∀ {v : Int}, 0 < v ∧ v ≤ 8000000000000 → v.natAbs < 2 ^ 8000 := fun {v} hv => Nat.lt_of_le_of_lt (show v.natAbs ≤ 8000000000000 by omega) (by decide)
      exact ⟨d2.1, b8 d1, b8 d2, h⟩
    · exact h.elim

end
end Dv
set_option Elab.async false
set_option linter.all false
set_option maxRecDepth 100000
set_option maxHeartbeats 1000000
namespace Dv
open PySem PySem.Spec PyProof.Rows L2
theorem needW_imp {C1 C2 C3 : Addr} {m x y z : PyData} {T : Nat} {Eh : DX → Prop} {P P' : Prop} (h : needW C1 C2 C3 m x y z T Eh P) (q : isN (mwrong m) = true → timesOk m x y = true → wayOk z = true → z.depth ≤ 64 → P → P') : needW C1 C2 C3 m x y z T Eh P' :=
  ⟨h.1, h.2.1, h.2.2.1, h.2.2.2.1, fun a b c => q a b c h.1 (h.2.2.2.2 a b c)⟩
theorem within_nat {n : Nat} {x : PyData} (h : withinD 0 ((n : Int) - 1) x = true) : ∃ i : Nat, x = .int (i : Nat) ∧ i < n := by
  cases x with
  | int v =>
    have h2 : (decide (0 ≤ v) && decide (v ≤ (n : Int) - 1)) = true := h
    rw [Bool.and_eq_true, decide_eq_true_iff, decide_eq_true_iff] at h2
    exact ⟨v.toNat, by rw [show ((v.toNat : Nat) : Int) = v by omega], by omega⟩
  | _ => cases h
theorem mk2 {m x y : PyData} (h : isN (mwrong m) = true) (t : timesOk m x y = true) : ∃ gs P A, ∃ i j : Nat, m = mkD gs P A ∧ x = .int (i : Nat) ∧ y = .int (j : Nat) ∧ GoodM gs P A ∧ i < P.length ∧ j < P.length := by
  obtain ⟨gs, P, A, rfl, g⟩ := mw_good h
  unfold timesOk at t
  rw [List.all_cons, List.all_cons, Bool.and_eq_true, Bool.and_eq_true] at t
  have e : mlast (mkD gs P A) = (P.length : Int) - 1 := by
    show (((P.map intsL).length : Nat) : Int) - 1 = _
    rw [List.length_map]
  rw [e] at t
  obtain ⟨i, rfl, hi⟩ := within_nat t.1
  obtain ⟨j, rfl, hj⟩ := within_nat t.2.1
  exact ⟨gs, P, A, i, j, rfl, rfl, rfl, g, hi, hj⟩
/-- one who has a good market and asks rightly hears the answer -/
theorem good_mw {gs : List PyData} {P A : List (List Int)} (g : GoodM gs P A) : mwrong (mkD gs P A) = .none := by
  have hf : mkForm (mkD gs P A) = true := by
    show (decide _ && (decide _ && decide _)) = true
    rw [List.length_map, List.length_map, decide_eq_true (by have := g.la; omega), decide_eq_true (by have := g.l1; omega), decide_eq_true (by have := g.l24; omega)]
    rfl
  have hg : goodsD (.tuple gs) = true := by
    show (decide _ && (decide _ && _)) = true
    rw [decide_eq_true (by have := g.g1; omega), decide_eq_true (by have := g.g8; omega), g.gn]
    rfl
  have e : mwrong (mkD gs P A) = wrongR (glen (.tuple gs)) (P.map intsL) (A.map intsL) := mw_rest hf hg
  have hl : ∀ {lo : Int} {L : List (List Int)}, (∀ p ∈ L, p.length = gs.length ∧ ∀ n ∈ p, lo ≤ n ∧ n ≤ 1000000) → ∀ d ∈ L.map intsL, lineD lo (gs.length : Int) d = true := fun {lo L} h d hd => by
    obtain ⟨p, hp, rfl⟩ := List.mem_map.mp hd
    show (decide _ && _) = true
    rw [List.length_map, decide_eq_true (by have := (h p hp).1; omega), Bool.true_and, List.all_eq_true]
    intro x hx
    obtain ⟨n, hn, rfl⟩ := List.mem_map.mp hx
    have := (h p hp).2 n hn
    show (decide _ && decide _) = true
    rw [decide_eq_true this.1, decide_eq_true this.2]
    rfl
  rw [e]
  unfold wrongR wrongQ
  rw [show glen (.tuple gs) = (gs.length : Int) from rfl, firstF_all (hl g.pr), firstF_all fun d hd => ?_]
  have h1 := hl (fun a ha => ⟨(g.am a ha).1, (g.am a ha).2.1⟩) d hd
  obtain ⟨a, ha, rfl⟩ := List.mem_map.mp hd
  show (_ && _) = true
  rw [show lineD 0 (gs.length : Int) (.list (a.map PyData.int)) = true from h1, Bool.true_and, List.any_eq_true]
  obtain ⟨n, hn, n0⟩ := (g.am a ha).2.2
  exact ⟨.int n, List.mem_map.mpr ⟨n, hn, rfl⟩, decide_eq_true n0⟩

abbrev s_number : Stmt := topS 34
abbrev n_number : List Str := ["market", "one", "other", "way"]
theorem sc_number : FnScope n_number ["market", "one", "other", "way"] (defScope s_number) := ⟨rfl, rfl, rfl, by decide +kernel, rfl, by decide +kernel, by decide +kernel⟩
def G_number (C1 C2 C3 : Addr) : DSp := fun as T Q Eh => match as with
  | [.d m, .d x, .d y, .d z] => needW C1 C2 C3 m x y z T Eh (∀ gs P A, ∀ i j : Nat, m = mkD gs P A → x = .int (i : Nat) → y = .int (j : Nat) → GoodM gs P A → i < P.length → j < P.length → Q (.d (frD (numQ P A i j z))) T)
  | _ => False
section
variable {P : Program} {w : World} {K : PySem.W.Frag} {mg : Str → Option Value} {base : Heap}
theorem ok_number {f : Addr} {fd : FuncData} {k : Nat} {tb : List Addr} {C_NoMarket : Addr} {C_NoTime : Addr} {C_NoWay : Addr} (F : Fun K "number" "number" s_number f fd) (A_need_way : AtD P w K mg base k tb "need_way" ["market", "one", "other", "way"] (G_need_way C_NoMarket C_NoTime C_NoWay)) (A_number_of : AtD P w K mg base k tb "number_of" ["market", "one", "other", "way"] (G_number_of)) : FnOk P w K mg base (L2.CX P w) (k + 1) f fd ["market", "one", "other", "way"] (spF K tb (G_number C_NoMarket C_NoTime C_NoWay)) := by
  refine fndX F sc_number (fun as T Q E h => ?_) (fun cdv A outer s H E Eh hr => ⟨_, (pssd_cons (psd_expr (pd_callX A_need_way hr (by rfl) (takes_of rfl rfl rfl rfl) (pad_cons (pd_var (pv 0)) (pad_cons (pd_var (pv 1)) (pad_cons (pd_var (pv 2)) (pad_cons (pd_var (pv 3)) pad_nil))))))
      (pssd_one (psd_ret (pd_call A_number_of hr (by rfl) (pad_cons (pd_var (pv 0)) (pad_cons (pd_var (pv 1)) (pad_cons (pd_var (pv 2)) (pad_cons (pd_var (pv 3)) pad_nil)))))))), fun as T Qh h => ?_⟩)
  · unfold G_number at h
    split at h
    · rfl
    · exact h.elim
  · unfold G_number at h
    split at h
    · rename_i m x y z
      rw [show ∀ a0 a1 a2 a3, startE n_number [a0, a1, a2, a3] = [a0, a1, a2, a3] from fun _ _ _ _ => rfl]
      try simp only [dIsNv, dRevO, dPar, dPar3, dTryB, bSeq, bIf, bCall, bNil, dAug, iR3, dMod0, xStar, dRepO, dExcA, dTryK, dIsx, lose, loseV, dSeq, dRet, dRetN, dIfS, dTst, dTru, dOp, dVar, dVarK, dC, dChain, dNot, dAnd, dOr, dAndE, dOrE, dNotE, dBoolE, dIf, dFn, dB, dTup, dLst, dO, xNil, xCons, dNext, dSet, dSetO, dRel, relE, dExpr, dCall, dCallO, dCons, dNil, dPurA, dAsg, gdName, gdNil, gdCons, gdTup, dForS, dCut, dCutO, dNoP, dPart, dCatO, dListO, dLc, wipeE, dApp, dIns, dSetIx, dRaise, dRetO, dRetOE, dCount, dRev, iL, iT, iS, iR1, iR2, iEL, iET, iZ, dYes, s_tb, s_tn, s_ti, s_tl, s_tt, s_dd, s_do, s_ll, s_lt, s_ls, s_ul, s_ut, s_isStr_none, s_isStr_bool, s_isStr_int, s_isStr_str, s_isStr_list, s_isStr_tuple, s_isTup_none, s_isTup_bool, s_isTup_int, s_isTup_str, s_isTup_list, s_isTup_tuple, s_isLst_none, s_isLst_bool, s_isLst_int, s_isLst_str, s_isLst_list, s_isLst_tuple, s_isInt_none, s_isInt_bool, s_isInt_int, s_isInt_str, s_isInt_list, s_isInt_tuple, s_isBool_none, s_isBool_bool, s_isBool_int, s_isBool_str, s_isBool_list, s_isBool_tuple, s_isN_none, s_isN_bool, s_isN_int, s_isN_str, s_isN_list, s_isN_tuple, s_is, s_isnt, s_xl, s_xt, s_xs, s_cl, s_ct, s_cs, s_add, s_sub, s_lti, s_lei, s_gti, s_gei, s_min, s_max, s_neg, s_abs, s_os, at0, at1, at2, eqD_int, neD_int, List.getElem?_cons_zero, List.getElem?_cons_succ, List.set_cons_zero, List.set_cons_succ, List.map_cons, List.map_nil, Bool.false_eq_true, Bool.not_true, Bool.not_false, ite_true, ite_false, if_true, if_false, true_and, and_true]
      refine needW_imp h fun e1 e2 e3 hd hP => ?_
      obtain ⟨gs, P, A, i, j, rfl, rfl, rfl, g, hi, hj⟩ := mk2 e1 e2
      exact ⟨gs, P, A, i, j, rfl, rfl, rfl, g, hi, hj, hd, hP gs P A i j rfl rfl rfl g hi hj⟩
    · exact h.elim

end
end Dv
set_option Elab.async false
set_option linter.all false
set_option maxRecDepth 100000
set_option maxHeartbeats 1000000
namespace Dv
open PySem PySem.Spec PyProof.Rows L2
abbrev s_Llowb : Stmt := topS 40
abbrev n_Llowb : List Str := ["_law_top", "_law_bottom", "_law_one", "_law_other"]
theorem sc_Llowb : FnScope n_Llowb ["_law_top", "_law_bottom"] (defScope s_Llowb) := ⟨rfl, rfl, rfl, by decide +kernel, rfl, by decide +kernel, by decide +kernel⟩
def G__law_lowb : DSp := fun as T Q _ => match as with
  | [.d (.int t), .d (.int b)] => 0 < b ∧ t.natAbs < 2 ^ 8000 ∧ b.natAbs < 2 ^ 8000 ∧ Q (.d (frD (Rat.divInt t b))) T
  | _ => False
section
variable {P : Program} {w : World} {K : PySem.W.Frag} {mg : Str → Option Value} {base : Heap}
theorem ok_Llowb {f : Addr} {fd : FuncData} {k : Nat} {tb : List Addr} (F : Fun K "_law_lowest" "_law_lowest" s_Llowb f fd) (m_abs : mg "abs" = none) : FnOk P w K mg base (L2.CX P w) (k + 1) f fd ["_law_top", "_law_bottom"] (spF K tb (G__law_lowb)) := by
  refine fnd F sc_Llowb (fun as T Q E h => ?_) (fun cdv A outer s H E hr => ⟨_, (pssd_cons (psd_par (i := 2) (j := 3) rfl sc_Llowb.nd rfl rfl (by decide) rfl rfl (pxd_cons (pd_b1 cad_abs (by rfl) m_abs (by decide +kernel) (pk_var (pv 0))) (pxd_cons (pd_var (pv 1)) pxd_nil)) rfl)
      (pssd_cons (psd_while PassesOwn.never (ptd_cmp opd_gt (pk_var (pv 3)) (PD.k pd_int) (nomark _)) (pssd_one (psd_par (i := 2) (j := 3) rfl sc_Llowb.nd rfl rfl (by decide) rfl rfl (pxd_cons (pd_var (pv 3)) (pxd_cons (pd_op opd_mod (pk_var (pv 2)) (pk_var (pv 3))) pxd_nil)) rfl)))
      (pssd_one (psd_ret (pd_tup (pxd_cons (pd_op opd_fdiv (pk_var (pv 0)) (pk_var (pv 2))) (pxd_cons (pd_op opd_fdiv (pk_var (pv 1)) (pk_var (pv 2))) pxd_nil))))))), fun as T Qh Eh h => ?_⟩)
  · unfold G__law_lowb at h
    split at h
    · rfl
    · exact h.elim
  · unfold G__law_lowb at h
    split at h
    · rename_i t b
      obtain ⟨h0, h1, h2, h⟩ := h
      have hc : Int.gcd t b ≠ 0 := fun z => by
        have := Int.gcd_eq_zero_iff.mp z
        omega
      have hl : Int.gcd t b ≤ b.natAbs := Nat.le_of_dvd (by omega) (Int.natAbs_dvd_natAbs.mpr (Int.gcd_dvd_right t b))
      rw [show ∀ a0 a1, startE n_Llowb [a0, a1] = [a0, a1, .no, .no] from fun _ _ => rfl]
      try simp only [dIsNv, dRevO, dPar, dPar3, dTryB, bSeq, bIf, bCall, bNil, dAug, iR3, dMod0, xStar, dRepO, dExcA, dTryK, dIsx, lose, loseV, dSeq, dRet, dRetN, dIfS, dTst, dTru, dOp, dVar, dVarK, dC, dChain, dNot, dAnd, dOr, dAndE, dOrE, dNotE, dBoolE, dIf, dFn, dB, dTup, dLst, dO, xNil, xCons, dNext, dSet, dSetO, dRel, relE, dExpr, dCall, dCallO, dCons, dNil, dPurA, dAsg, gdName, gdNil, gdCons, gdTup, dForS, dCut, dCutO, dNoP, dPart, dCatO, dListO, dLc, wipeE, dApp, dIns, dSetIx, dRaise, dRetO, dRetOE, dCount, dRev, iL, iT, iS, iR1, iR2, iEL, iET, iZ, dYes, s_tb, s_tn, s_ti, s_tl, s_tt, s_dd, s_do, s_ll, s_lt, s_ls, s_ul, s_ut, s_isStr_none, s_isStr_bool, s_isStr_int, s_isStr_str, s_isStr_list, s_isStr_tuple, s_isTup_none, s_isTup_bool, s_isTup_int, s_isTup_str, s_isTup_list, s_isTup_tuple, s_isLst_none, s_isLst_bool, s_isLst_int, s_isLst_str, s_isLst_list, s_isLst_tuple, s_isInt_none, s_isInt_bool, s_isInt_int, s_isInt_str, s_isInt_list, s_isInt_tuple, s_isBool_none, s_isBool_bool, s_isBool_int, s_isBool_str, s_isBool_list, s_isBool_tuple, s_isN_none, s_isN_bool, s_isN_int, s_isN_str, s_isN_list, s_isN_tuple, s_is, s_isnt, s_xl, s_xt, s_xs, s_cl, s_ct, s_cs, s_add, s_sub, s_lti, s_lei, s_gti, s_gei, s_min, s_max, s_neg, s_abs, s_os, at0, at1, at2, eqD_int, neD_int, List.getElem?_cons_zero, List.getElem?_cons_succ, List.set_cons_zero, List.set_cons_succ, List.map_cons, List.map_nil, Bool.false_eq_true, Bool.not_true, Bool.not_false, ite_true, ite_false, if_true, if_false, true_and, and_true]
      have i0 : Int.gcd (if t < 0 then -t else t) b = Int.gcd t b := by
        split
        · rw [Int.neg_gcd]
        · rfl
      refine ⟨fun m E' T' => (∃ x y, E' = [.d (.int t), .d (.int b), .d (.int x), .d (.int y)] ∧ m = y.toNat ∧ 0 ≤ x ∧ 0 ≤ y ∧ Int.gcd x y = Int.gcd t b) ∧ T' = T, ⟨b.toNat, ⟨_, b, rfl, rfl, by split <;> omega, by omega, i0⟩, rfl⟩, fun m E' T' hI => ?_⟩
      obtain ⟨⟨x, y, rfl, rfl, hx, hy, hg⟩, rfl⟩ := hI
      try simp only [dIsNv, dRevO, dPar, dPar3, dTryB, bSeq, bIf, bCall, bNil, dAug, iR3, dMod0, xStar, dRepO, dExcA, dTryK, dIsx, lose, loseV, dSeq, dRet, dRetN, dIfS, dTst, dTru, dOp, dVar, dVarK, dC, dChain, dNot, dAnd, dOr, dAndE, dOrE, dNotE, dBoolE, dIf, dFn, dB, dTup, dLst, dO, xNil, xCons, dNext, dSet, dSetO, dRel, relE, dExpr, dCall, dCallO, dCons, dNil, dPurA, dAsg, gdName, gdNil, gdCons, gdTup, dForS, dCut, dCutO, dNoP, dPart, dCatO, dListO, dLc, wipeE, dApp, dIns, dSetIx, dRaise, dRetO, dRetOE, dCount, dRev, iL, iT, iS, iR1, iR2, iEL, iET, iZ, dYes, s_tb, s_tn, s_ti, s_tl, s_tt, s_dd, s_do, s_ll, s_lt, s_ls, s_ul, s_ut, s_isStr_none, s_isStr_bool, s_isStr_int, s_isStr_str, s_isStr_list, s_isStr_tuple, s_isTup_none, s_isTup_bool, s_isTup_int, s_isTup_str, s_isTup_list, s_isTup_tuple, s_isLst_none, s_isLst_bool, s_isLst_int, s_isLst_str, s_isLst_list, s_isLst_tuple, s_isInt_none, s_isInt_bool, s_isInt_int, s_isInt_str, s_isInt_list, s_isInt_tuple, s_isBool_none, s_isBool_bool, s_isBool_int, s_isBool_str, s_isBool_list, s_isBool_tuple, s_isN_none, s_isN_bool, s_isN_int, s_isN_str, s_isN_list, s_isN_tuple, s_is, s_isnt, s_xl, s_xt, s_xs, s_cl, s_ct, s_cs, s_add, s_sub, s_lti, s_lei, s_gti, s_gei, s_min, s_max, s_neg, s_abs, s_os, at0, at1, at2, eqD_int, neD_int, List.getElem?_cons_zero, List.getElem?_cons_succ, List.set_cons_zero, List.set_cons_succ, List.map_cons, List.map_nil, Bool.false_eq_true, Bool.not_true, Bool.not_false, ite_true, ite_false, if_true, if_false, true_and, and_true]
      refine dif (fun e => ?_) (fun e => ?_)
      · have hp : 0 < y := of_decide_eq_true e
        have e2 : y ≠ 0 := by omega
        rw [s_mod hp]
        try simp only [dIsNv, dRevO, dPar, dPar3, dTryB, bSeq, bIf, bCall, bNil, dAug, iR3, dMod0, xStar, dRepO, dExcA, dTryK, dIsx, lose, loseV, dSeq, dRet, dRetN, dIfS, dTst, dTru, dOp, dVar, dVarK, dC, dChain, dNot, dAnd, dOr, dAndE, dOrE, dNotE, dBoolE, dIf, dFn, dB, dTup, dLst, dO, xNil, xCons, dNext, dSet, dSetO, dRel, relE, dExpr, dCall, dCallO, dCons, dNil, dPurA, dAsg, gdName, gdNil, gdCons, gdTup, dForS, dCut, dCutO, dNoP, dPart, dCatO, dListO, dLc, wipeE, dApp, dIns, dSetIx, dRaise, dRetO, dRetOE, dCount, dRev, iL, iT, iS, iR1, iR2, iEL, iET, iZ, dYes, s_tb, s_tn, s_ti, s_tl, s_tt, s_dd, s_do, s_ll, s_lt, s_ls, s_ul, s_ut, s_isStr_none, s_isStr_bool, s_isStr_int, s_isStr_str, s_isStr_list, s_isStr_tuple, s_isTup_none, s_isTup_bool, s_isTup_int, s_isTup_str, s_isTup_list, s_isTup_tuple, s_isLst_none, s_isLst_bool, s_isLst_int, s_isLst_str, s_isLst_list, s_isLst_tuple, s_isInt_none, s_isInt_bool, s_isInt_int, s_isInt_str, s_isInt_list, s_isInt_tuple, s_isBool_none, s_isBool_bool, s_isBool_int, s_isBool_str, s_isBool_list, s_isBool_tuple, s_isN_none, s_isN_bool, s_isN_int, s_isN_str, s_isN_list, s_isN_tuple, s_is, s_isnt, s_xl, s_xt, s_xs, s_cl, s_ct, s_cs, s_add, s_sub, s_lti, s_lei, s_gti, s_gei, s_min, s_max, s_neg, s_abs, s_os, at0, at1, at2, eqD_int, neD_int, List.getElem?_cons_zero, List.getElem?_cons_succ, List.set_cons_zero, List.set_cons_succ, List.map_cons, List.map_nil, Bool.false_eq_true, Bool.not_true, Bool.not_false, ite_true, ite_false, if_true, if_false, true_and, and_true]
        refine ⟨(x % y).toNat, ?_, ⟨_, _, rfl, rfl, by omega, Int.emod_nonneg _ e2, by rw [gcd_step]; exact hg⟩⟩
        have := Int.emod_lt_of_pos x hp
        have := Int.emod_nonneg x e2
        omega
      · have e2 : ¬ 0 < y := of_decide_eq_false e
        have e3 : y = 0 := by omega
        subst e3
        have ea : x = ((Int.gcd t b : Nat) : Int) := by
          rw [← hg, Int.gcd_zero_right]
          omega
        rw [ea]
        have hg0 : (0 : Int) < ((Int.gcd t b : Nat) : Int) := by omega
        have hb : ((Int.gcd t b : Nat) : Int).natAbs < 2 ^ 8000 := by
          rw [Int.natAbs_natCast]
          exact Nat.lt_of_le_of_lt hl h2
        rw [s_fdiv hg0 hb, s_fdiv hg0 hb]
        try simp only [dIsNv, dRevO, dPar, dPar3, dTryB, bSeq, bIf, bCall, bNil, dAug, iR3, dMod0, xStar, dRepO, dExcA, dTryK, dIsx, lose, loseV, dSeq, dRet, dRetN, dIfS, dTst, dTru, dOp, dVar, dVarK, dC, dChain, dNot, dAnd, dOr, dAndE, dOrE, dNotE, dBoolE, dIf, dFn, dB, dTup, dLst, dO, xNil, xCons, dNext, dSet, dSetO, dRel, relE, dExpr, dCall, dCallO, dCons, dNil, dPurA, dAsg, gdName, gdNil, gdCons, gdTup, dForS, dCut, dCutO, dNoP, dPart, dCatO, dListO, dLc, wipeE, dApp, dIns, dSetIx, dRaise, dRetO, dRetOE, dCount, dRev, iL, iT, iS, iR1, iR2, iEL, iET, iZ, dYes, s_tb, s_tn, s_ti, s_tl, s_tt, s_dd, s_do, s_ll, s_lt, s_ls, s_ul, s_ut, s_isStr_none, s_isStr_bool, s_isStr_int, s_isStr_str, s_isStr_list, s_isStr_tuple, s_isTup_none, s_isTup_bool, s_isTup_int, s_isTup_str, s_isTup_list, s_isTup_tuple, s_isLst_none, s_isLst_bool, s_isLst_int, s_isLst_str, s_isLst_list, s_isLst_tuple, s_isInt_none, s_isInt_bool, s_isInt_int, s_isInt_str, s_isInt_list, s_isInt_tuple, s_isBool_none, s_isBool_bool, s_isBool_int, s_isBool_str, s_isBool_list, s_isBool_tuple, s_isN_none, s_isN_bool, s_isN_int, s_isN_str, s_isN_list, s_isN_tuple, s_is, s_isnt, s_xl, s_xt, s_xs, s_cl, s_ct, s_cs, s_add, s_sub, s_lti, s_lei, s_gti, s_gei, s_min, s_max, s_neg, s_abs, s_os, at0, at1, at2, eqD_int, neD_int, List.getElem?_cons_zero, List.getElem?_cons_succ, List.set_cons_zero, List.set_cons_succ, List.map_cons, List.map_nil, Bool.false_eq_true, Bool.not_true, Bool.not_false, ite_true, ite_false, if_true, if_false, true_and, and_true]
        refine ⟨by show 2 ≤ 1000000; decide, ?_⟩
        have e := divInt_pos (t := t) h0
        rw [← e.1, ← e.2]
        exact h
    · exact h.elim

end
end Dv
set_option Elab.async false
set_option linter.all false
set_option maxRecDepth 100000
set_option maxHeartbeats 1000000
namespace Dv
open PySem PySem.Spec PyProof.Rows L2
theorem zipD_ints {p a : List Int} (h : p.length = a.length) : zipD (p.map PyData.int) (a.map PyData.int) = (List.range p.length).map fun j => .tuple [.int (p.getD j 0), .int (a.getD j 0)] := by
  refine List.ext_getElem? fun j => ?_
  by_cases hj : j < p.length
  · have e1 : p[j]? = some (p.getD j 0) := by rw [List.getD_eq_getElem?_getD, List.getElem?_eq_getElem hj]; rfl
    have e2 : a[j]? = some (a.getD j 0) := by rw [List.getD_eq_getElem?_getD, List.getElem?_eq_getElem (by omega)]; rfl
    rw [zip_get (x := .int (p.getD j 0)) (y := .int (a.getD j 0)) (by rw [List.getElem?_map, e1]; rfl) (by rw [List.getElem?_map, e2]; rfl), List.getElem?_map, List.getElem?_range hj]
    rfl
  · rw [List.getElem?_eq_none (by rw [zip_len, List.length_map, List.length_map]; omega), List.getElem?_eq_none (by rw [List.length_map, List.length_range]; omega)]
theorem intD_bool' (b : Bool) : intD (.bool b) = some (.int (if b then 1 else 0)) := rfl

abbrev s_Lsum : Stmt := topS 41
abbrev n_Lsum : List Str := ["_law_market", "_law_k", "_law_amounts_here", "_law_price", "_law_amount"]
theorem sc_Lsum : FnScope n_Lsum ["_law_market", "_law_k", "_law_amounts_here"] (defScope s_Lsum) := ⟨rfl, rfl, rfl, by decide +kernel, rfl, by decide +kernel, by decide +kernel⟩
def G__law_sum : DSp := fun as T Q _ => match as with
  | [.d m, .d x, .d y] => ∃ gs P A, ∃ i : Nat, ∃ a : List Int, m = mkD gs P A ∧ x = .int (i : Nat) ∧ y = intsL a ∧ GoodM gs P A ∧ i < P.length ∧ a ∈ A ∧ Q (.d (.int (dotD (P.getD i []) a))) T
  | _ => False
section
variable {P : Program} {w : World} {K : PySem.W.Frag} {mg : Str → Option Value} {base : Heap}
theorem ok_Lsum {f : Addr} {fd : FuncData} {k : Nat} {tb : List Addr} (F : Fun K "_law_sum" "_law_sum" s_Lsum f fd) (m_sum : mg "sum" = none) (m_zip : mg "zip" = none) : FnOk P w K mg base (L2.CX P w) (k + 1) f fd ["_law_market", "_law_k", "_law_amounts_here"] (spF K tb (G__law_sum)) := by
  refine fnd F sc_Lsum (fun as T Q E h => ?_) (fun cdv A outer s H E hr => ⟨_, (pssd_one (psd_ret (pd_b1 (cad_sum rfl) (by rfl) m_sum (by decide +kernel) (PD.k (PDo.d (pdo_lc (own := [("_law_price", 3), ("_law_amount", 4)]) (γ := (gdTup 2 (gdCons (gdName 3) (gdCons (gdName 4) gdNil)))) (tt := dYes) (te := (dOp mulD (dVarK 3) (dVarK 4))) (f := (iZ (dOp ixD (dOp ixD (dVarK 0) (dC (.int 1))) (dVarK 1)) (dVar 2))) rfl sc_Lsum.nd (pid_zip (by rfl) m_zip (pd_ix (PD.k (pd_ix (pk_var (pv 0)) (PD.k pd_int) (fun _ _ => rfl))) (pk_var (pv 1)) (fun _ _ => rfl)) (pd_var (pv 2))) (blkOk_by (own := [("_law_price", 3), ("_law_amount", 4)]) (N := n_Lsum) (sc := defScope s_Lsum) (by decide +kernel)) (fun _ _ _ _ _ => (pgy_tup (n := 2) rfl (pgsd_cons (pgd_name (i := 3) sc_Lsum.nd rfl (.inl rfl)) (pgsd_cons (pgd_name (i := 4) sc_Lsum.nd rfl (.inl rfl)) pgsd_nil)))) (fun _ _ _ _ _ => ptsd_nil) (fun _ _ _ _ _ => (pd_op opd_mul (pk_var (pv 3)) (pk_var (pv 4)))))))))), fun as T Qh Eh h => ?_⟩)
  · unfold G__law_sum at h
    split at h
    · rfl
    · exact h.elim
  · unfold G__law_sum at h
    split at h
    · rename_i m x y
      obtain ⟨gs, P, A, i, a, rfl, rfl, rfl, g, hi, ha, h⟩ := h
      have mi := getL_mem hi
      have gp := g.pr _ mi
      have ga := g.am _ ha
      have g8 := g.g8
      unfold mkD
      rw [show ∀ a0 a1 a2, startE n_Lsum [a0, a1, a2] = [a0, a1, a2, .no, .no] from fun _ _ _ => rfl]
      try simp only [dIsNv, dRevO, dPar, dPar3, dTryB, bSeq, bIf, bCall, bNil, dAug, iR3, dMod0, xStar, dRepO, dExcA, dTryK, dIsx, lose, loseV, dSeq, dRet, dRetN, dIfS, dTst, dTru, dOp, dVar, dVarK, dC, dChain, dNot, dAnd, dOr, dAndE, dOrE, dNotE, dBoolE, dIf, dFn, dB, dTup, dLst, dO, xNil, xCons, dNext, dSet, dSetO, dRel, relE, dExpr, dCall, dCallO, dCons, dNil, dPurA, dAsg, gdName, gdNil, gdCons, gdTup, dForS, dCut, dCutO, dNoP, dPart, dCatO, dListO, dLc, wipeE, dApp, dIns, dSetIx, dRaise, dRetO, dRetOE, dCount, dRev, iL, iT, iS, iR1, iR2, iEL, iET, iZ, dYes, s_tb, s_tn, s_ti, s_tl, s_tt, s_dd, s_do, s_ll, s_lt, s_ls, s_ul, s_ut, s_isStr_none, s_isStr_bool, s_isStr_int, s_isStr_str, s_isStr_list, s_isStr_tuple, s_isTup_none, s_isTup_bool, s_isTup_int, s_isTup_str, s_isTup_list, s_isTup_tuple, s_isLst_none, s_isLst_bool, s_isLst_int, s_isLst_str, s_isLst_list, s_isLst_tuple, s_isInt_none, s_isInt_bool, s_isInt_int, s_isInt_str, s_isInt_list, s_isInt_tuple, s_isBool_none, s_isBool_bool, s_isBool_int, s_isBool_str, s_isBool_list, s_isBool_tuple, s_isN_none, s_isN_bool, s_isN_int, s_isN_str, s_isN_list, s_isN_tuple, s_is, s_isnt, s_xl, s_xt, s_xs, s_cl, s_ct, s_cs, s_add, s_sub, s_lti, s_lei, s_gti, s_gei, s_min, s_max, s_neg, s_abs, s_os, at0, at1, at2, eqD_int, neD_int, List.getElem?_cons_zero, List.getElem?_cons_succ, List.set_cons_zero, List.set_cons_succ, List.map_cons, List.map_nil, Bool.false_eq_true, Bool.not_true, Bool.not_false, ite_true, ite_false, if_true, if_false, true_and, and_true]
      rw [atL hi]
      simp only [intsL]
      try simp only [dIsNv, dRevO, dPar, dPar3, dTryB, bSeq, bIf, bCall, bNil, dAug, iR3, dMod0, xStar, dRepO, dExcA, dTryK, dIsx, lose, loseV, dSeq, dRet, dRetN, dIfS, dTst, dTru, dOp, dVar, dVarK, dC, dChain, dNot, dAnd, dOr, dAndE, dOrE, dNotE, dBoolE, dIf, dFn, dB, dTup, dLst, dO, xNil, xCons, dNext, dSet, dSetO, dRel, relE, dExpr, dCall, dCallO, dCons, dNil, dPurA, dAsg, gdName, gdNil, gdCons, gdTup, dForS, dCut, dCutO, dNoP, dPart, dCatO, dListO, dLc, wipeE, dApp, dIns, dSetIx, dRaise, dRetO, dRetOE, dCount, dRev, iL, iT, iS, iR1, iR2, iEL, iET, iZ, dYes, s_tb, s_tn, s_ti, s_tl, s_tt, s_dd, s_do, s_ll, s_lt, s_ls, s_ul, s_ut, s_isStr_none, s_isStr_bool, s_isStr_int, s_isStr_str, s_isStr_list, s_isStr_tuple, s_isTup_none, s_isTup_bool, s_isTup_int, s_isTup_str, s_isTup_list, s_isTup_tuple, s_isLst_none, s_isLst_bool, s_isLst_int, s_isLst_str, s_isLst_list, s_isLst_tuple, s_isInt_none, s_isInt_bool, s_isInt_int, s_isInt_str, s_isInt_list, s_isInt_tuple, s_isBool_none, s_isBool_bool, s_isBool_int, s_isBool_str, s_isBool_list, s_isBool_tuple, s_isN_none, s_isN_bool, s_isN_int, s_isN_str, s_isN_list, s_isN_tuple, s_is, s_isnt, s_xl, s_xt, s_xs, s_cl, s_ct, s_cs, s_add, s_sub, s_lti, s_lei, s_gti, s_gei, s_min, s_max, s_neg, s_abs, s_os, at0, at1, at2, eqD_int, neD_int, List.getElem?_cons_zero, List.getElem?_cons_succ, List.set_cons_zero, List.set_cons_succ, List.map_cons, List.map_nil, Bool.false_eq_true, Bool.not_true, Bool.not_false, ite_true, ite_false, if_true, if_false, true_and, and_true]
      rw [zipD_ints (by rw [gp.1, ga.1])]
      refine dLc_all _ (fun j => .int ((P.getD i []).getD j 0 * a.getD j 0)) (by rw [List.length_range]; omega) (fun j Ky Kn hj hy => ?_) ?_
      · have hj2 := List.mem_range.mp hj
        have b1 := gp.2 _ (getD_mem hj2)
        have b2 := ga.2.1 _ (getD_mem (show j < a.length by omega))
        refine ⟨rfl, ?_⟩
        try simp only [dIsNv, dRevO, dPar, dPar3, dTryB, bSeq, bIf, bCall, bNil, dAug, iR3, dMod0, xStar, dRepO, dExcA, dTryK, dIsx, lose, loseV, dSeq, dRet, dRetN, dIfS, dTst, dTru, dOp, dVar, dVarK, dC, dChain, dNot, dAnd, dOr, dAndE, dOrE, dNotE, dBoolE, dIf, dFn, dB, dTup, dLst, dO, xNil, xCons, dNext, dSet, dSetO, dRel, relE, dExpr, dCall, dCallO, dCons, dNil, dPurA, dAsg, gdName, gdNil, gdCons, gdTup, dForS, dCut, dCutO, dNoP, dPart, dCatO, dListO, dLc, wipeE, dApp, dIns, dSetIx, dRaise, dRetO, dRetOE, dCount, dRev, iL, iT, iS, iR1, iR2, iEL, iET, iZ, dYes, s_tb, s_tn, s_ti, s_tl, s_tt, s_dd, s_do, s_ll, s_lt, s_ls, s_ul, s_ut, s_isStr_none, s_isStr_bool, s_isStr_int, s_isStr_str, s_isStr_list, s_isStr_tuple, s_isTup_none, s_isTup_bool, s_isTup_int, s_isTup_str, s_isTup_list, s_isTup_tuple, s_isLst_none, s_isLst_bool, s_isLst_int, s_isLst_str, s_isLst_list, s_isLst_tuple, s_isInt_none, s_isInt_bool, s_isInt_int, s_isInt_str, s_isInt_list, s_isInt_tuple, s_isBool_none, s_isBool_bool, s_isBool_int, s_isBool_str, s_isBool_list, s_isBool_tuple, s_isN_none, s_isN_bool, s_isN_int, s_isN_str, s_isN_list, s_isN_tuple, s_is, s_isnt, s_xl, s_xt, s_xs, s_cl, s_ct, s_cs, s_add, s_sub, s_lti, s_lei, s_gti, s_gei, s_min, s_max, s_neg, s_abs, s_os, at0, at1, at2, eqD_int, neD_int, List.getElem?_cons_zero, List.getElem?_cons_succ, List.set_cons_zero, List.set_cons_succ, List.map_cons, List.map_nil, Bool.false_eq_true, Bool.not_true, Bool.not_false, ite_true, ite_false, if_true, if_false, true_and, and_true]
        refine q_mul (small8 (by omega)) (small8 (by omega)) ?_
        exact hy
      have e : List.map (fun j => PyData.int ((P.getD i []).getD j 0 * a.getD j 0)) (List.range (P.getD i []).length) = ((List.range (P.getD i []).length).map fun j => (P.getD i []).getD j 0 * a.getD j 0).map PyData.int := by
        rw [List.map_map]
        rfl
      rw [e]
      try simp only [dIsNv, dRevO, dPar, dPar3, dTryB, bSeq, bIf, bCall, bNil, dAug, iR3, dMod0, xStar, dRepO, dExcA, dTryK, dIsx, lose, loseV, dSeq, dRet, dRetN, dIfS, dTst, dTru, dOp, dVar, dVarK, dC, dChain, dNot, dAnd, dOr, dAndE, dOrE, dNotE, dBoolE, dIf, dFn, dB, dTup, dLst, dO, xNil, xCons, dNext, dSet, dSetO, dRel, relE, dExpr, dCall, dCallO, dCons, dNil, dPurA, dAsg, gdName, gdNil, gdCons, gdTup, dForS, dCut, dCutO, dNoP, dPart, dCatO, dListO, dLc, wipeE, dApp, dIns, dSetIx, dRaise, dRetO, dRetOE, dCount, dRev, iL, iT, iS, iR1, iR2, iEL, iET, iZ, dYes, s_tb, s_tn, s_ti, s_tl, s_tt, s_dd, s_do, s_ll, s_lt, s_ls, s_ul, s_ut, s_isStr_none, s_isStr_bool, s_isStr_int, s_isStr_str, s_isStr_list, s_isStr_tuple, s_isTup_none, s_isTup_bool, s_isTup_int, s_isTup_str, s_isTup_list, s_isTup_tuple, s_isLst_none, s_isLst_bool, s_isLst_int, s_isLst_str, s_isLst_list, s_isLst_tuple, s_isInt_none, s_isInt_bool, s_isInt_int, s_isInt_str, s_isInt_list, s_isInt_tuple, s_isBool_none, s_isBool_bool, s_isBool_int, s_isBool_str, s_isBool_list, s_isBool_tuple, s_isN_none, s_isN_bool, s_isN_int, s_isN_str, s_isN_list, s_isN_tuple, s_is, s_isnt, s_xl, s_xt, s_xs, s_cl, s_ct, s_cs, s_add, s_sub, s_lti, s_lei, s_gti, s_gei, s_min, s_max, s_neg, s_abs, s_os, at0, at1, at2, eqD_int, neD_int, List.getElem?_cons_zero, List.getElem?_cons_succ, List.set_cons_zero, List.set_cons_succ, List.map_cons, List.map_nil, Bool.false_eq_true, Bool.not_true, Bool.not_false, ite_true, ite_false, if_true, if_false, true_and, and_true]
      rw [sumD_map]
      exact h
    · exact h.elim

end
abbrev s_Lnumber : Stmt := topS 42
abbrev n_Lnumber : List Str := ["_law_market", "_law_one", "_law_other", "_law_way_here", "_law_amounts_here"]
theorem sc_Lnumber : FnScope n_Lnumber ["_law_market", "_law_one", "_law_other", "_law_way_here"] (defScope s_Lnumber) := ⟨rfl, rfl, rfl, by decide +kernel, rfl, by decide +kernel, by decide +kernel⟩
def G__law_number : DSp := fun as T Q _ => match as with
  | [.d m, .d x, .d y, .d z] => ∃ gs P A, ∃ i j : Nat, m = mkD gs P A ∧ x = .int (i : Nat) ∧ y = .int (j : Nat) ∧ GoodM gs P A ∧ i < P.length ∧ j < P.length ∧ (z = .str "old" ∨ z = .str "new") ∧ Q (.d (frD (numQ P A i j z))) T
  | _ => False
section
variable {P : Program} {w : World} {K : PySem.W.Frag} {mg : Str → Option Value} {base : Heap}
theorem ok_Lnumber {f : Addr} {fd : FuncData} {k : Nat} {tb : List Addr} (F : Fun K "_law_number" "_law_number" s_Lnumber f fd) (A__law_lowest : AtD P w K mg base k tb "_law_lowest" ["_law_top", "_law_bottom"] (G__law_lowb)) (A__law_sum : AtD P w K mg base k tb "_law_sum" ["_law_market", "_law_k", "_law_amounts_here"] (G__law_sum)) (m_int : mg "int" = none) : FnOk P w K mg base (L2.CX P w) (k + 1) f fd ["_law_market", "_law_one", "_law_other", "_law_way_here"] (spF K tb (G__law_number)) := by
  refine fnd F sc_Lnumber (fun as T Q E h => ?_) (fun cdv A outer s H E hr => ⟨_, (pssd_cons (psd_set (i := 4) sc_Lnumber.nd rfl (.inl rfl) (pd_ix (PD.k (pd_ix (pk_var (pv 0)) (PD.k pd_int) (fun _ _ => rfl))) (PD.k (pd_ix (PD.k (PDo.d (pdo_lst (pxd_cons (pd_var (pv 1)) (pxd_cons (pd_var (pv 2)) pxd_nil))))) (PD.k (pd_t1 cad_int (by rfl) m_int (by decide +kernel) (PD.k (pd_cmp (opd_eq hr.units) (pk_var (pv 3)) (PD.k pd_str) (nomark _))))) (fun _ _ => rfl))) (fun _ _ => rfl)))
      (pssd_one (psd_ret (pd_call A__law_lowest hr (by rfl) (pad_cons (pd_call A__law_sum hr (by rfl) (pad_cons (pd_var (pv 0)) (pad_cons (pd_var (pv 2)) (pad_cons (pd_var (pv 4)) pad_nil)))) (pad_cons (pd_call A__law_sum hr (by rfl) (pad_cons (pd_var (pv 0)) (pad_cons (pd_var (pv 1)) (pad_cons (pd_var (pv 4)) pad_nil)))) pad_nil)))))), fun as T Qh Eh h => ?_⟩)
  · unfold G__law_number at h
    split at h
    · rfl
    · exact h.elim
  · unfold G__law_number at h
    split at h
    · rename_i m x y z
      obtain ⟨gs, P, A, i, j, rfl, rfl, rfl, g, hi, hj, hz, h⟩ := h
      have la := g.la
      have hw : wayIx z i j < A.length := wayIx_lt (by omega) (by omega)
      have ma := getL_mem hw
      have d1 := dot_ok g (getL_mem hj) ma
      have d2 := dot_ok g (getL_mem hi) ma
      have b8 : ∀ {v : Int}, 0 < v ∧ v ≤ 8000000000000 → v.natAbs < 2 ^ 8000 := fun {v} hv => Nat.lt_of_le_of_lt (show v.natAbs ≤ 8000000000000 by omega) (by decide)
      have fin : ∀ n : Nat, n = wayIx z i j → atI (A.map intsL) (n : Int) = some (intsL (A.getD (wayIx z i j) [])) := fun n e => by
        rw [e]
        exact atL hw
      rw [show ∀ a0 a1 a2 a3, startE n_Lnumber [a0, a1, a2, a3] = [a0, a1, a2, a3, .no] from fun _ _ _ _ => rfl]
      try simp only [dIsNv, dRevO, dPar, dPar3, dTryB, bSeq, bIf, bCall, bNil, dAug, iR3, dMod0, xStar, dRepO, dExcA, dTryK, dIsx, lose, loseV, dSeq, dRet, dRetN, dIfS, dTst, dTru, dOp, dVar, dVarK, dC, dChain, dNot, dAnd, dOr, dAndE, dOrE, dNotE, dBoolE, dIf, dFn, dB, dTup, dLst, dO, xNil, xCons, dNext, dSet, dSetO, dRel, relE, dExpr, dCall, dCallO, dCons, dNil, dPurA, dAsg, gdName, gdNil, gdCons, gdTup, dForS, dCut, dCutO, dNoP, dPart, dCatO, dListO, dLc, wipeE, dApp, dIns, dSetIx, dRaise, dRetO, dRetOE, dCount, dRev, iL, iT, iS, iR1, iR2, iEL, iET, iZ, dYes, s_tb, s_tn, s_ti, s_tl, s_tt, s_dd, s_do, s_ll, s_lt, s_ls, s_ul, s_ut, s_isStr_none, s_isStr_bool, s_isStr_int, s_isStr_str, s_isStr_list, s_isStr_tuple, s_isTup_none, s_isTup_bool, s_isTup_int, s_isTup_str, s_isTup_list, s_isTup_tuple, s_isLst_none, s_isLst_bool, s_isLst_int, s_isLst_str, s_isLst_list, s_isLst_tuple, s_isInt_none, s_isInt_bool, s_isInt_int, s_isInt_str, s_isInt_list, s_isInt_tuple, s_isBool_none, s_isBool_bool, s_isBool_int, s_isBool_str, s_isBool_list, s_isBool_tuple, s_isN_none, s_isN_bool, s_isN_int, s_isN_str, s_isN_list, s_isN_tuple, s_is, s_isnt, s_xl, s_xt, s_xs, s_cl, s_ct, s_cs, s_add, s_sub, s_lti, s_lei, s_gti, s_gei, s_min, s_max, s_neg, s_abs, s_os, at0, at1, at2, eqD_int, neD_int, List.getElem?_cons_zero, List.getElem?_cons_succ, List.set_cons_zero, List.set_cons_succ, List.map_cons, List.map_nil, Bool.false_eq_true, Bool.not_true, Bool.not_false, ite_true, ite_false, if_true, if_false, true_and, and_true]
      rcases hz with rfl | rfl
      · rw [show eqD (.str "old") (.str "new") = some (.bool false) from by rw [eq_z (by simp [PyData.depth]), eqv_str]; rfl]
        try simp only [dIsNv, dRevO, dPar, dPar3, dTryB, bSeq, bIf, bCall, bNil, dAug, iR3, dMod0, xStar, dRepO, dExcA, dTryK, dIsx, lose, loseV, dSeq, dRet, dRetN, dIfS, dTst, dTru, dOp, dVar, dVarK, dC, dChain, dNot, dAnd, dOr, dAndE, dOrE, dNotE, dBoolE, dIf, dFn, dB, dTup, dLst, dO, xNil, xCons, dNext, dSet, dSetO, dRel, relE, dExpr, dCall, dCallO, dCons, dNil, dPurA, dAsg, gdName, gdNil, gdCons, gdTup, dForS, dCut, dCutO, dNoP, dPart, dCatO, dListO, dLc, wipeE, dApp, dIns, dSetIx, dRaise, dRetO, dRetOE, dCount, dRev, iL, iT, iS, iR1, iR2, iEL, iET, iZ, dYes, s_tb, s_tn, s_ti, s_tl, s_tt, s_dd, s_do, s_ll, s_lt, s_ls, s_ul, s_ut, s_isStr_none, s_isStr_bool, s_isStr_int, s_isStr_str, s_isStr_list, s_isStr_tuple, s_isTup_none, s_isTup_bool, s_isTup_int, s_isTup_str, s_isTup_list, s_isTup_tuple, s_isLst_none, s_isLst_bool, s_isLst_int, s_isLst_str, s_isLst_list, s_isLst_tuple, s_isInt_none, s_isInt_bool, s_isInt_int, s_isInt_str, s_isInt_list, s_isInt_tuple, s_isBool_none, s_isBool_bool, s_isBool_int, s_isBool_str, s_isBool_list, s_isBool_tuple, s_isN_none, s_isN_bool, s_isN_int, s_isN_str, s_isN_list, s_isN_tuple, s_is, s_isnt, s_xl, s_xt, s_xs, s_cl, s_ct, s_cs, s_add, s_sub, s_lti, s_lei, s_gti, s_gei, s_min, s_max, s_neg, s_abs, s_os, at0, at1, at2, eqD_int, neD_int, List.getElem?_cons_zero, List.getElem?_cons_succ, List.set_cons_zero, List.set_cons_succ, List.map_cons, List.map_nil, Bool.false_eq_true, Bool.not_true, Bool.not_false, ite_true, ite_false, if_true, if_false, true_and, and_true]
        rw [intD_bool']
        unfold mkD
        try simp only [dIsNv, dRevO, dPar, dPar3, dTryB, bSeq, bIf, bCall, bNil, dAug, iR3, dMod0, xStar, dRepO, dExcA, dTryK, dIsx, lose, loseV, dSeq, dRet, dRetN, dIfS, dTst, dTru, dOp, dVar, dVarK, dC, dChain, dNot, dAnd, dOr, dAndE, dOrE, dNotE, dBoolE, dIf, dFn, dB, dTup, dLst, dO, xNil, xCons, dNext, dSet, dSetO, dRel, relE, dExpr, dCall, dCallO, dCons, dNil, dPurA, dAsg, gdName, gdNil, gdCons, gdTup, dForS, dCut, dCutO, dNoP, dPart, dCatO, dListO, dLc, wipeE, dApp, dIns, dSetIx, dRaise, dRetO, dRetOE, dCount, dRev, iL, iT, iS, iR1, iR2, iEL, iET, iZ, dYes, s_tb, s_tn, s_ti, s_tl, s_tt, s_dd, s_do, s_ll, s_lt, s_ls, s_ul, s_ut, s_isStr_none, s_isStr_bool, s_isStr_int, s_isStr_str, s_isStr_list, s_isStr_tuple, s_isTup_none, s_isTup_bool, s_isTup_int, s_isTup_str, s_isTup_list, s_isTup_tuple, s_isLst_none, s_isLst_bool, s_isLst_int, s_isLst_str, s_isLst_list, s_isLst_tuple, s_isInt_none, s_isInt_bool, s_isInt_int, s_isInt_str, s_isInt_list, s_isInt_tuple, s_isBool_none, s_isBool_bool, s_isBool_int, s_isBool_str, s_isBool_list, s_isBool_tuple, s_isN_none, s_isN_bool, s_isN_int, s_isN_str, s_isN_list, s_isN_tuple, s_is, s_isnt, s_xl, s_xt, s_xs, s_cl, s_ct, s_cs, s_add, s_sub, s_lti, s_lei, s_gti, s_gei, s_min, s_max, s_neg, s_abs, s_os, at0, at1, at2, eqD_int, neD_int, List.getElem?_cons_zero, List.getElem?_cons_succ, List.set_cons_zero, List.set_cons_succ, List.map_cons, List.map_nil, Bool.false_eq_true, Bool.not_true, Bool.not_false, ite_true, ite_false, if_true, if_false, true_and, and_true]
        refine ⟨le_dn rfl, ?_⟩
        rw [fin i (by unfold wayIx; rw [eqv_str]; rfl)]
        try simp only [dIsNv, dRevO, dPar, dPar3, dTryB, bSeq, bIf, bCall, bNil, dAug, iR3, dMod0, xStar, dRepO, dExcA, dTryK, dIsx, lose, loseV, dSeq, dRet, dRetN, dIfS, dTst, dTru, dOp, dVar, dVarK, dC, dChain, dNot, dAnd, dOr, dAndE, dOrE, dNotE, dBoolE, dIf, dFn, dB, dTup, dLst, dO, xNil, xCons, dNext, dSet, dSetO, dRel, relE, dExpr, dCall, dCallO, dCons, dNil, dPurA, dAsg, gdName, gdNil, gdCons, gdTup, dForS, dCut, dCutO, dNoP, dPart, dCatO, dListO, dLc, wipeE, dApp, dIns, dSetIx, dRaise, dRetO, dRetOE, dCount, dRev, iL, iT, iS, iR1, iR2, iEL, iET, iZ, dYes, s_tb, s_tn, s_ti, s_tl, s_tt, s_dd, s_do, s_ll, s_lt, s_ls, s_ul, s_ut, s_isStr_none, s_isStr_bool, s_isStr_int, s_isStr_str, s_isStr_list, s_isStr_tuple, s_isTup_none, s_isTup_bool, s_isTup_int, s_isTup_str, s_isTup_list, s_isTup_tuple, s_isLst_none, s_isLst_bool, s_isLst_int, s_isLst_str, s_isLst_list, s_isLst_tuple, s_isInt_none, s_isInt_bool, s_isInt_int, s_isInt_str, s_isInt_list, s_isInt_tuple, s_isBool_none, s_isBool_bool, s_isBool_int, s_isBool_str, s_isBool_list, s_isBool_tuple, s_isN_none, s_isN_bool, s_isN_int, s_isN_str, s_isN_list, s_isN_tuple, s_is, s_isnt, s_xl, s_xt, s_xs, s_cl, s_ct, s_cs, s_add, s_sub, s_lti, s_lei, s_gti, s_gei, s_min, s_max, s_neg, s_abs, s_os, at0, at1, at2, eqD_int, neD_int, List.getElem?_cons_zero, List.getElem?_cons_succ, List.set_cons_zero, List.set_cons_succ, List.map_cons, List.map_nil, Bool.false_eq_true, Bool.not_true, Bool.not_false, ite_true, ite_false, if_true, if_false, true_and, and_true]
        refine ⟨gs, P, A, j, A.getD (wayIx (.str "old") i j) [], rfl, rfl, rfl, g, hj, ma, ?_⟩
        try simp only [dIsNv, dRevO, dPar, dPar3, dTryB, bSeq, bIf, bCall, bNil, dAug, iR3, dMod0, xStar, dRepO, dExcA, dTryK, dIsx, lose, loseV, dSeq, dRet, dRetN, dIfS, dTst, dTru, dOp, dVar, dVarK, dC, dChain, dNot, dAnd, dOr, dAndE, dOrE, dNotE, dBoolE, dIf, dFn, dB, dTup, dLst, dO, xNil, xCons, dNext, dSet, dSetO, dRel, relE, dExpr, dCall, dCallO, dCons, dNil, dPurA, dAsg, gdName, gdNil, gdCons, gdTup, dForS, dCut, dCutO, dNoP, dPart, dCatO, dListO, dLc, wipeE, dApp, dIns, dSetIx, dRaise, dRetO, dRetOE, dCount, dRev, iL, iT, iS, iR1, iR2, iEL, iET, iZ, dYes, s_tb, s_tn, s_ti, s_tl, s_tt, s_dd, s_do, s_ll, s_lt, s_ls, s_ul, s_ut, s_isStr_none, s_isStr_bool, s_isStr_int, s_isStr_str, s_isStr_list, s_isStr_tuple, s_isTup_none, s_isTup_bool, s_isTup_int, s_isTup_str, s_isTup_list, s_isTup_tuple, s_isLst_none, s_isLst_bool, s_isLst_int, s_isLst_str, s_isLst_list, s_isLst_tuple, s_isInt_none, s_isInt_bool, s_isInt_int, s_isInt_str, s_isInt_list, s_isInt_tuple, s_isBool_none, s_isBool_bool, s_isBool_int, s_isBool_str, s_isBool_list, s_isBool_tuple, s_isN_none, s_isN_bool, s_isN_int, s_isN_str, s_isN_list, s_isN_tuple, s_is, s_isnt, s_xl, s_xt, s_xs, s_cl, s_ct, s_cs, s_add, s_sub, s_lti, s_lei, s_gti, s_gei, s_min, s_max, s_neg, s_abs, s_os, at0, at1, at2, eqD_int, neD_int, List.getElem?_cons_zero, List.getElem?_cons_succ, List.set_cons_zero, List.set_cons_succ, List.map_cons, List.map_nil, Bool.false_eq_true, Bool.not_true, Bool.not_false, ite_true, ite_false, if_true, if_false, true_and, and_true]
        refine ⟨gs, P, A, i, A.getD (wayIx (.str "old") i j) [], rfl, rfl, rfl, g, hi, ma, ?_⟩
        try simp only [dIsNv, dRevO, dPar, dPar3, dTryB, bSeq, bIf, bCall, bNil, dAug, iR3, dMod0, xStar, dRepO, dExcA, dTryK, dIsx, lose, loseV, dSeq, dRet, dRetN, dIfS, dTst, dTru, dOp, dVar, dVarK, dC, dChain, dNot, dAnd, dOr, dAndE, dOrE, dNotE, dBoolE, dIf, dFn, dB, dTup, dLst, dO, xNil, xCons, dNext, dSet, dSetO, dRel, relE, dExpr, dCall, dCallO, dCons, dNil, dPurA, dAsg, gdName, gdNil, gdCons, gdTup, dForS, dCut, dCutO, dNoP, dPart, dCatO, dListO, dLc, wipeE, dApp, dIns, dSetIx, dRaise, dRetO, dRetOE, dCount, dRev, iL, iT, iS, iR1, iR2, iEL, iET, iZ, dYes, s_tb, s_tn, s_ti, s_tl, s_tt, s_dd, s_do, s_ll, s_lt, s_ls, s_ul, s_ut, s_isStr_none, s_isStr_bool, s_isStr_int, s_isStr_str, s_isStr_list, s_isStr_tuple, s_isTup_none, s_isTup_bool, s_isTup_int, s_isTup_str, s_isTup_list, s_isTup_tuple, s_isLst_none, s_isLst_bool, s_isLst_int, s_isLst_str, s_isLst_list, s_isLst_tuple, s_isInt_none, s_isInt_bool, s_isInt_int, s_isInt_str, s_isInt_list, s_isInt_tuple, s_isBool_none, s_isBool_bool, s_isBool_int, s_isBool_str, s_isBool_list, s_isBool_tuple, s_isN_none, s_isN_bool, s_isN_int, s_isN_str, s_isN_list, s_isN_tuple, s_is, s_isnt, s_xl, s_xt, s_xs, s_cl, s_ct, s_cs, s_add, s_sub, s_lti, s_lei, s_gti, s_gei, s_min, s_max, s_neg, s_abs, s_os, at0, at1, at2, eqD_int, neD_int, List.getElem?_cons_zero, List.getElem?_cons_succ, List.set_cons_zero, List.set_cons_succ, List.map_cons, List.map_nil, Bool.false_eq_true, Bool.not_true, Bool.not_false, ite_true, ite_false, if_true, if_false, true_and, and_true]
        exact ⟨d2.1, b8 d1, b8 d2, h⟩
      · rw [show eqD (.str "new") (.str "new") = some (.bool true) from by rw [eq_z (by simp [PyData.depth]), eqv_str]; rfl]
        try simp only [dIsNv, dRevO, dPar, dPar3, dTryB, bSeq, bIf, bCall, bNil, dAug, iR3, dMod0, xStar, dRepO, dExcA, dTryK, dIsx, lose, loseV, dSeq, dRet, dRetN, dIfS, dTst, dTru, dOp, dVar, dVarK, dC, dChain, dNot, dAnd, dOr, dAndE, dOrE, dNotE, dBoolE, dIf, dFn, dB, dTup, dLst, dO, xNil, xCons, dNext, dSet, dSetO, dRel, relE, dExpr, dCall, dCallO, dCons, dNil, dPurA, dAsg, gdName, gdNil, gdCons, gdTup, dForS, dCut, dCutO, dNoP, dPart, dCatO, dListO, dLc, wipeE, dApp, dIns, dSetIx, dRaise, dRetO, dRetOE, dCount, dRev, iL, iT, iS, iR1, iR2, iEL, iET, iZ, dYes, s_tb, s_tn, s_ti, s_tl, s_tt, s_dd, s_do, s_ll, s_lt, s_ls, s_ul, s_ut, s_isStr_none, s_isStr_bool, s_isStr_int, s_isStr_str, s_isStr_list, s_isStr_tuple, s_isTup_none, s_isTup_bool, s_isTup_int, s_isTup_str, s_isTup_list, s_isTup_tuple, s_isLst_none, s_isLst_bool, s_isLst_int, s_isLst_str, s_isLst_list, s_isLst_tuple, s_isInt_none, s_isInt_bool, s_isInt_int, s_isInt_str, s_isInt_list, s_isInt_tuple, s_isBool_none, s_isBool_bool, s_isBool_int, s_isBool_str, s_isBool_list, s_isBool_tuple, s_isN_none, s_isN_bool, s_isN_int, s_isN_str, s_isN_list, s_isN_tuple, s_is, s_isnt, s_xl, s_xt, s_xs, s_cl, s_ct, s_cs, s_add, s_sub, s_lti, s_lei, s_gti, s_gei, s_min, s_max, s_neg, s_abs, s_os, at0, at1, at2, eqD_int, neD_int, List.getElem?_cons_zero, List.getElem?_cons_succ, List.set_cons_zero, List.set_cons_succ, List.map_cons, List.map_nil, Bool.false_eq_true, Bool.not_true, Bool.not_false, ite_true, ite_false, if_true, if_false, true_and, and_true]
        rw [intD_bool']
        unfold mkD
        try simp only [dIsNv, dRevO, dPar, dPar3, dTryB, bSeq, bIf, bCall, bNil, dAug, iR3, dMod0, xStar, dRepO, dExcA, dTryK, dIsx, lose, loseV, dSeq, dRet, dRetN, dIfS, dTst, dTru, dOp, dVar, dVarK, dC, dChain, dNot, dAnd, dOr, dAndE, dOrE, dNotE, dBoolE, dIf, dFn, dB, dTup, dLst, dO, xNil, xCons, dNext, dSet, dSetO, dRel, relE, dExpr, dCall, dCallO, dCons, dNil, dPurA, dAsg, gdName, gdNil, gdCons, gdTup, dForS, dCut, dCutO, dNoP, dPart, dCatO, dListO, dLc, wipeE, dApp, dIns, dSetIx, dRaise, dRetO, dRetOE, dCount, dRev, iL, iT, iS, iR1, iR2, iEL, iET, iZ, dYes, s_tb, s_tn, s_ti, s_tl, s_tt, s_dd, s_do, s_ll, s_lt, s_ls, s_ul, s_ut, s_isStr_none, s_isStr_bool, s_isStr_int, s_isStr_str, s_isStr_list, s_isStr_tuple, s_isTup_none, s_isTup_bool, s_isTup_int, s_isTup_str, s_isTup_list, s_isTup_tuple, s_isLst_none, s_isLst_bool, s_isLst_int, s_isLst_str, s_isLst_list, s_isLst_tuple, s_isInt_none, s_isInt_bool, s_isInt_int, s_isInt_str, s_isInt_list, s_isInt_tuple, s_isBool_none, s_isBool_bool, s_isBool_int, s_isBool_str, s_isBool_list, s_isBool_tuple, s_isN_none, s_isN_bool, s_isN_int, s_isN_str, s_isN_list, s_isN_tuple, s_is, s_isnt, s_xl, s_xt, s_xs, s_cl, s_ct, s_cs, s_add, s_sub, s_lti, s_lei, s_gti, s_gei, s_min, s_max, s_neg, s_abs, s_os, at0, at1, at2, eqD_int, neD_int, List.getElem?_cons_zero, List.getElem?_cons_succ, List.set_cons_zero, List.set_cons_succ, List.map_cons, List.map_nil, Bool.false_eq_true, Bool.not_true, Bool.not_false, ite_true, ite_false, if_true, if_false, true_and, and_true]
        refine ⟨le_dn rfl, ?_⟩
        rw [fin j (by unfold wayIx; rw [eqv_str]; rfl)]
        try simp only [dIsNv, dRevO, dPar, dPar3, dTryB, bSeq, bIf, bCall, bNil, dAug, iR3, dMod0, xStar, dRepO, dExcA, dTryK, dIsx, lose, loseV, dSeq, dRet, dRetN, dIfS, dTst, dTru, dOp, dVar, dVarK, dC, dChain, dNot, dAnd, dOr, dAndE, dOrE, dNotE, dBoolE, dIf, dFn, dB, dTup, dLst, dO, xNil, xCons, dNext, dSet, dSetO, dRel, relE, dExpr, dCall, dCallO, dCons, dNil, dPurA, dAsg, gdName, gdNil, gdCons, gdTup, dForS, dCut, dCutO, dNoP, dPart, dCatO, dListO, dLc, wipeE, dApp, dIns, dSetIx, dRaise, dRetO, dRetOE, dCount, dRev, iL, iT, iS, iR1, iR2, iEL, iET, iZ, dYes, s_tb, s_tn, s_ti, s_tl, s_tt, s_dd, s_do, s_ll, s_lt, s_ls, s_ul, s_ut, s_isStr_none, s_isStr_bool, s_isStr_int, s_isStr_str, s_isStr_list, s_isStr_tuple, s_isTup_none, s_isTup_bool, s_isTup_int, s_isTup_str, s_isTup_list, s_isTup_tuple, s_isLst_none, s_isLst_bool, s_isLst_int, s_isLst_str, s_isLst_list, s_isLst_tuple, s_isInt_none, s_isInt_bool, s_isInt_int, s_isInt_str, s_isInt_list, s_isInt_tuple, s_isBool_none, s_isBool_bool, s_isBool_int, s_isBool_str, s_isBool_list, s_isBool_tuple, s_isN_none, s_isN_bool, s_isN_int, s_isN_str, s_isN_list, s_isN_tuple, s_is, s_isnt, s_xl, s_xt, s_xs, s_cl, s_ct, s_cs, s_add, s_sub, s_lti, s_lei, s_gti, s_gei, s_min, s_max, s_neg, s_abs, s_os, at0, at1, at2, eqD_int, neD_int, List.getElem?_cons_zero, List.getElem?_cons_succ, List.set_cons_zero, List.set_cons_succ, List.map_cons, List.map_nil, Bool.false_eq_true, Bool.not_true, Bool.not_false, ite_true, ite_false, if_true, if_false, true_and, and_true]
        refine ⟨gs, P, A, j, A.getD (wayIx (.str "new") i j) [], rfl, rfl, rfl, g, hj, ma, ?_⟩
        try simp only [dIsNv, dRevO, dPar, dPar3, dTryB, bSeq, bIf, bCall, bNil, dAug, iR3, dMod0, xStar, dRepO, dExcA, dTryK, dIsx, lose, loseV, dSeq, dRet, dRetN, dIfS, dTst, dTru, dOp, dVar, dVarK, dC, dChain, dNot, dAnd, dOr, dAndE, dOrE, dNotE, dBoolE, dIf, dFn, dB, dTup, dLst, dO, xNil, xCons, dNext, dSet, dSetO, dRel, relE, dExpr, dCall, dCallO, dCons, dNil, dPurA, dAsg, gdName, gdNil, gdCons, gdTup, dForS, dCut, dCutO, dNoP, dPart, dCatO, dListO, dLc, wipeE, dApp, dIns, dSetIx, dRaise, dRetO, dRetOE, dCount, dRev, iL, iT, iS, iR1, iR2, iEL, iET, iZ, dYes, s_tb, s_tn, s_ti, s_tl, s_tt, s_dd, s_do, s_ll, s_lt, s_ls, s_ul, s_ut, s_isStr_none, s_isStr_bool, s_isStr_int, s_isStr_str, s_isStr_list, s_isStr_tuple, s_isTup_none, s_isTup_bool, s_isTup_int, s_isTup_str, s_isTup_list, s_isTup_tuple, s_isLst_none, s_isLst_bool, s_isLst_int, s_isLst_str, s_isLst_list, s_isLst_tuple, s_isInt_none, s_isInt_bool, s_isInt_int, s_isInt_str, s_isInt_list, s_isInt_tuple, s_isBool_none, s_isBool_bool, s_isBool_int, s_isBool_str, s_isBool_list, s_isBool_tuple, s_isN_none, s_isN_bool, s_isN_int, s_isN_str, s_isN_list, s_isN_tuple, s_is, s_isnt, s_xl, s_xt, s_xs, s_cl, s_ct, s_cs, s_add, s_sub, s_lti, s_lei, s_gti, s_gei, s_min, s_max, s_neg, s_abs, s_os, at0, at1, at2, eqD_int, neD_int, List.getElem?_cons_zero, List.getElem?_cons_succ, List.set_cons_zero, List.set_cons_succ, List.map_cons, List.map_nil, Bool.false_eq_true, Bool.not_true, Bool.not_false, ite_true, ite_false, if_true, if_false, true_and, and_true]
        refine ⟨gs, P, A, i, A.getD (wayIx (.str "new") i j) [], rfl, rfl, rfl, g, hi, ma, ?_⟩
        try simp only [dIsNv, dRevO, dPar, dPar3, dTryB, bSeq, bIf, bCall, bNil, dAug, iR3, dMod0, xStar, dRepO, dExcA, dTryK, dIsx, lose, loseV, dSeq, dRet, dRetN, dIfS, dTst, dTru, dOp, dVar, dVarK, dC, dChain, dNot, dAnd, dOr, dAndE, dOrE, dNotE, dBoolE, dIf, dFn, dB, dTup, dLst, dO, xNil, xCons, dNext, dSet, dSetO, dRel, relE, dExpr, dCall, dCallO, dCons, dNil, dPurA, dAsg, gdName, gdNil, gdCons, gdTup, dForS, dCut, dCutO, dNoP, dPart, dCatO, dListO, dLc, wipeE, dApp, dIns, dSetIx, dRaise, dRetO, dRetOE, dCount, dRev, iL, iT, iS, iR1, iR2, iEL, iET, iZ, dYes, s_tb, s_tn, s_ti, s_tl, s_tt, s_dd, s_do, s_ll, s_lt, s_ls, s_ul, s_ut, s_isStr_none, s_isStr_bool, s_isStr_int, s_isStr_str, s_isStr_list, s_isStr_tuple, s_isTup_none, s_isTup_bool, s_isTup_int, s_isTup_str, s_isTup_list, s_isTup_tuple, s_isLst_none, s_isLst_bool, s_isLst_int, s_isLst_str, s_isLst_list, s_isLst_tuple, s_isInt_none, s_isInt_bool, s_isInt_int, s_isInt_str, s_isInt_list, s_isInt_tuple, s_isBool_none, s_isBool_bool, s_isBool_int, s_isBool_str, s_isBool_list, s_isBool_tuple, s_isN_none, s_isN_bool, s_isN_int, s_isN_str, s_isN_list, s_isN_tuple, s_is, s_isnt, s_xl, s_xt, s_xs, s_cl, s_ct, s_cs, s_add, s_sub, s_lti, s_lei, s_gti, s_gei, s_min, s_max, s_neg, s_abs, s_os, at0, at1, at2, eqD_int, neD_int, List.getElem?_cons_zero, List.getElem?_cons_succ, List.set_cons_zero, List.set_cons_succ, List.map_cons, List.map_nil, Bool.false_eq_true, Bool.not_true, Bool.not_false, ite_true, ite_false, if_true, if_false, true_and, and_true]
        exact ⟨d2.1, b8 d1, b8 d2, h⟩
    · exact h.elim

end
end Dv
set_option Elab.async false
set_option linter.all false
set_option maxRecDepth 100000
set_option maxHeartbeats 1000000
namespace Dv
open PySem PySem.Spec PyProof.Rows L2
abbrev s_Liswhole : Stmt := topS 43
abbrev n_Liswhole : List Str := ["_law_thing"]
theorem sc_Liswhole : FnScope n_Liswhole ["_law_thing"] (defScope s_Liswhole) := ⟨rfl, rfl, rfl, by decide +kernel, rfl, by decide +kernel, by decide +kernel⟩
def G__law_is_whole : DSp := fun as T Q _ => match as with
  | [.d x] => Q (.d (.bool (isWholeD x))) T
  | _ => False
section
variable {P : Program} {w : World} {K : PySem.W.Frag} {mg : Str → Option Value} {base : Heap}
theorem ok_Liswhole {f : Addr} {fd : FuncData} {k : Nat} {tb : List Addr} (F : Fun K "_law_is_whole" "_law_is_whole" s_Liswhole f fd) (m_bool : mg "bool" = none) (m_int : mg "int" = none) (m_isinstance : mg "isinstance" = none) : FnOk P w K mg base (L2.CX P w) (k + 1) f fd ["_law_thing"] (spF K tb (G__law_is_whole)) := by
  refine fnd F sc_Liswhole (fun as T Q E h => ?_) (fun cdv A outer s H E hr => ⟨_, (pssd_one (psd_ret (pd_and (pd_isi ki_int (by rfl) m_isinstance (by rfl) m_int (by decide +kernel) (pk_var (pv 0))) (pd_one (pd_not (pd_isi ki_bool (by rfl) m_isinstance (by rfl) m_bool (by decide +kernel) (pk_var (pv 0)))))))), fun as T Qh Eh h => ?_⟩)
  · unfold G__law_is_whole at h
    split at h
    · rfl
    · exact h.elim
  · unfold G__law_is_whole at h
    split at h
    · rename_i x
      cases x with
      | bool b => exact h
      | int i => exact h
      | _ => exact h
    · exact h.elim

end
end Dv
set_option Elab.async false
set_option linter.all false
set_option maxRecDepth 100000
set_option maxHeartbeats 1000000
namespace Dv
open PySem PySem.Spec PyProof.Rows L2
theorem eqv_nl (ds : List PyData) : PyData.eqv (.list ds) (.list []) = decide (ds = []) := by
  cases ds <;> simp [PyData.eqv, PyData.eqvAll]
theorem depth_le {n : Nat} {ds : List PyData} (h : ∀ d ∈ ds, d.depth ≤ n) : (PyData.list ds).depth ≤ n + 1 ∧ (PyData.tuple ds).depth ≤ n + 1 := by
  have := depth_all h
  simp only [PyData.depth]
  omega
theorem depth_mem {ds : List PyData} {d : PyData} (hd : d ∈ ds) : d.depth + 1 ≤ (PyData.list ds).depth ∧ d.depth + 1 ≤ (PyData.tuple ds).depth := by
  have key : ∀ ds : List PyData, d ∈ ds → d.depth ≤ PyData.depthAll ds := fun ds => by
    induction ds with
    | nil => intro h; simp at h
    | cons a r ih =>
      intro h
      simp only [PyData.depthAll]
      rcases List.mem_cons.mp h with rfl | h
      · omega
      · have := ih h
        omega
  have := key ds hd
  simp only [PyData.depth]
  omega
theorem ne_nl {ds : List PyData} (h : ∀ d ∈ ds, d.depth ≤ 60) : neD (.list ds) (.list []) = some (.bool (!decide (ds = []))) := by
  unfold neD
  rw [if_pos ⟨Nat.le_trans (depth_le h).1 (by decide), by simp [PyData.depth, PyData.depthAll]⟩, eqv_nl]
theorem eq_nl {ds : List PyData} (h : ∀ d ∈ ds, d.depth ≤ 60) : eqD (.list ds) (.list []) = some (.bool (decide (ds = []))) := by
  unfold eqD
  rw [if_pos ⟨Nat.le_trans (depth_le h).1 (by decide), by simp [PyData.depth, PyData.depthAll]⟩, eqv_nl]
def abc : Str := "abcdefghijklmnopqrstuvwxyz"
theorem abc_mem (c : Nat) : decide (c ∈ abc.cps.toList) = isL c := by
  have e : abc.cps.toList = (List.range 26).map (· + 97) := by decide +kernel
  rw [e, Bool.eq_iff_iff, decide_eq_true_iff, List.mem_map]
  unfold isL
  rw [Bool.and_eq_true, decide_eq_true_iff, decide_eq_true_iff]
  constructor
  · rintro ⟨a, ha, rfl⟩
    have := List.mem_range.mp ha
    omega
  · rintro ⟨h1, h2⟩
    exact ⟨c - 97, List.mem_range.mpr (by omega), by omega⟩
theorem abc_in (c : Nat) : inD true (.str ⟨#[c]⟩) (.str "abcdefghijklmnopqrstuvwxyz") = some (.bool (!isL c)) := by
  show some (PyData.bool (!inStr ⟨#[c]⟩ abc)) = _
  unfold inStr
  rw [PySem.StrLaws.found_one, abc_mem]
theorem filter_nil {α : Type} {p : α → Bool} {xs : List α} : decide (xs.filter (fun x => !p x) = []) = xs.all p := by
  rw [Bool.eq_iff_iff, decide_eq_true_iff, List.filter_eq_nil_iff, List.all_eq_true]
  constructor
  · intro h x hx
    have := h x hx
    simpa using this
  · intro h x hx
    have := h x hx
    simp [this]
def signD (c : Nat) : PyData := .str ⟨#[c]⟩
theorem signs_map (z : Str) : signs z = z.cps.toList.map signD := rfl

abbrev s_Lisname : Stmt := topS 44
abbrev n_Lisname : List Str := ["_law_thing", "_law_sign"]
theorem sc_Lisname : FnScope n_Lisname ["_law_thing"] (defScope s_Lisname) := ⟨rfl, rfl, rfl, by decide +kernel, rfl, by decide +kernel, by decide +kernel⟩
def G__law_is_name : DSp := fun as T Q _ => match as with
  | [.d x] => Q (.d (.bool (isWordD 8 x))) T
  | _ => False
section
variable {P : Program} {w : World} {K : PySem.W.Frag} {mg : Str → Option Value} {base : Heap}
theorem ok_Lisname {f : Addr} {fd : FuncData} {k : Nat} {tb : List Addr} (F : Fun K "_law_is_name" "_law_is_name" s_Lisname f fd) (m_isinstance : mg "isinstance" = none) (m_len : mg "len" = none) (m_str : mg "str" = none) : FnOk P w K mg base (L2.CX P w) (k + 1) f fd ["_law_thing"] (spF K tb (G__law_is_name)) := by
  refine fnd F sc_Lisname (fun as T Q E h => ?_) (fun cdv A outer s H E hr => ⟨_, (pssd_cons (psd_if (PWd.pt (pwd_or (ptd_not (ptd_tru (PD.k (pd_isi ki_str (by rfl) m_isinstance (by rfl) m_str (by decide +kernel) (pk_var (pv 0)))))) (pwd_or1 (ptd_not (ptd_chain opd_le opd_le (PD.k pd_int) (PD.k (pd_b1 cad_len (by rfl) m_len PySem.boot_len (pk_var (pv 0)))) (PD.k pd_int)))))) (pssd_one (psd_ret pd_bl)) pssd_nil)
      (pssd_one (psd_ret (pd_cmp (opd_eq hr.units) (PD.k (PDo.d (pdo_lc (own := [("_law_sign", 1)]) (γ := (gdName 1)) (tt := (dTst (dOp (inD true) (dVarK 1) (dC (.str "abcdefghijklmnopqrstuvwxyz"))))) (te := (dVar 1)) (f := (iS (dVar 0))) rfl sc_Lisname.nd (pid_str (pd_var (pv 0))) (blkOk_by (own := [("_law_sign", 1)]) (N := n_Lisname) (sc := defScope s_Lisname) (by decide +kernel)) (fun _ _ _ _ _ => (PGd.y (pgd_name (i := 1) sc_Lisname.nd rfl (.inl rfl)))) (fun _ _ _ _ _ => (ptsd_one (ptd_cmp (opd_notin hr.u65) (pk_var (pv 1)) (PD.k pd_str) rfl))) (fun _ _ _ _ _ => (pd_var (pv 1)))))) (PD.k (PDo.d (pdo_lst pxd_nil))) (nomark _))))), fun as T Qh Eh h => ?_⟩)
  · unfold G__law_is_name at h
    split at h
    · rfl
    · exact h.elim
  · unfold G__law_is_name at h
    split at h
    · rename_i x
      rw [show ∀ a0, startE n_Lisname [a0] = [a0, .no] from fun _ => rfl]
      try simp only [dIsNv, dRevO, dPar, dPar3, dTryB, bSeq, bIf, bCall, bNil, dAug, iR3, dMod0, xStar, dRepO, dExcA, dTryK, dIsx, lose, loseV, dSeq, dRet, dRetN, dIfS, dTst, dTru, dOp, dVar, dVarK, dC, dChain, dNot, dAnd, dOr, dAndE, dOrE, dNotE, dBoolE, dIf, dFn, dB, dTup, dLst, dO, xNil, xCons, dNext, dSet, dSetO, dRel, relE, dExpr, dCall, dCallO, dCons, dNil, dPurA, dAsg, gdName, gdNil, gdCons, gdTup, dForS, dCut, dCutO, dNoP, dPart, dCatO, dListO, dLc, wipeE, dApp, dIns, dSetIx, dRaise, dRetO, dRetOE, dCount, dRev, iL, iT, iS, iR1, iR2, iEL, iET, iZ, dYes, s_tb, s_tn, s_ti, s_tl, s_tt, s_dd, s_do, s_ll, s_lt, s_ls, s_ul, s_ut, s_isStr_none, s_isStr_bool, s_isStr_int, s_isStr_str, s_isStr_list, s_isStr_tuple, s_isTup_none, s_isTup_bool, s_isTup_int, s_isTup_str, s_isTup_list, s_isTup_tuple, s_isLst_none, s_isLst_bool, s_isLst_int, s_isLst_str, s_isLst_list, s_isLst_tuple, s_isInt_none, s_isInt_bool, s_isInt_int, s_isInt_str, s_isInt_list, s_isInt_tuple, s_isBool_none, s_isBool_bool, s_isBool_int, s_isBool_str, s_isBool_list, s_isBool_tuple, s_isN_none, s_isN_bool, s_isN_int, s_isN_str, s_isN_list, s_isN_tuple, s_is, s_isnt, s_xl, s_xt, s_xs, s_cl, s_ct, s_cs, s_add, s_sub, s_lti, s_lei, s_gti, s_gei, s_min, s_max, s_neg, s_abs, s_os, at0, at1, at2, eqD_int, neD_int, List.getElem?_cons_zero, List.getElem?_cons_succ, List.set_cons_zero, List.set_cons_succ, List.map_cons, List.map_nil, Bool.false_eq_true, Bool.not_true, Bool.not_false, ite_true, ite_false, if_true, if_false, true_and, and_true]
      cases x with
      | str z =>
        try simp only [dIsNv, dRevO, dPar, dPar3, dTryB, bSeq, bIf, bCall, bNil, dAug, iR3, dMod0, xStar, dRepO, dExcA, dTryK, dIsx, lose, loseV, dSeq, dRet, dRetN, dIfS, dTst, dTru, dOp, dVar, dVarK, dC, dChain, dNot, dAnd, dOr, dAndE, dOrE, dNotE, dBoolE, dIf, dFn, dB, dTup, dLst, dO, xNil, xCons, dNext, dSet, dSetO, dRel, relE, dExpr, dCall, dCallO, dCons, dNil, dPurA, dAsg, gdName, gdNil, gdCons, gdTup, dForS, dCut, dCutO, dNoP, dPart, dCatO, dListO, dLc, wipeE, dApp, dIns, dSetIx, dRaise, dRetO, dRetOE, dCount, dRev, iL, iT, iS, iR1, iR2, iEL, iET, iZ, dYes, s_tb, s_tn, s_ti, s_tl, s_tt, s_dd, s_do, s_ll, s_lt, s_ls, s_ul, s_ut, s_isStr_none, s_isStr_bool, s_isStr_int, s_isStr_str, s_isStr_list, s_isStr_tuple, s_isTup_none, s_isTup_bool, s_isTup_int, s_isTup_str, s_isTup_list, s_isTup_tuple, s_isLst_none, s_isLst_bool, s_isLst_int, s_isLst_str, s_isLst_list, s_isLst_tuple, s_isInt_none, s_isInt_bool, s_isInt_int, s_isInt_str, s_isInt_list, s_isInt_tuple, s_isBool_none, s_isBool_bool, s_isBool_int, s_isBool_str, s_isBool_list, s_isBool_tuple, s_isN_none, s_isN_bool, s_isN_int, s_isN_str, s_isN_list, s_isN_tuple, s_is, s_isnt, s_xl, s_xt, s_xs, s_cl, s_ct, s_cs, s_add, s_sub, s_lti, s_lei, s_gti, s_gei, s_min, s_max, s_neg, s_abs, s_os, at0, at1, at2, eqD_int, neD_int, List.getElem?_cons_zero, List.getElem?_cons_succ, List.set_cons_zero, List.set_cons_succ, List.map_cons, List.map_nil, Bool.false_eq_true, Bool.not_true, Bool.not_false, ite_true, ite_false, if_true, if_false, true_and, and_true]
        have e1 : isWordD 8 (.str z) = (decide (1 ≤ (z.length : Int)) && (decide ((z.length : Int) ≤ 8) && z.cps.toList.all isL)) := rfl
        have fin : (decide (1 ≤ (z.length : Int)) && decide ((z.length : Int) ≤ 8)) = false → Qh (.d (.bool false)) T := fun e => by
          rw [e1, ← Bool.and_assoc, e] at h
          exact h
        refine dif (fun ea => ?_) (fun ea => fin (by rw [ea]; rfl))
        refine dif (fun e => fin (by rw [nT e, Bool.and_false])) (fun e => ?_)
        rw [e1, ea, nF e, Bool.true_and, Bool.true_and] at h
        have hl : z.cps.toList.length ≤ 8 := by
          have := of_decide_eq_true (nF e)
          have h2 : z.cps.toList.length = z.length := by rw [Array.length_toList]; rfl
          omega
        rw [signs_map]
        refine dLc_map signD (fun c => !isL c) signD (by omega) (fun c Ky Kn hc hy hn => ?_) ?_
        · unfold signD
          try simp only [dIsNv, dRevO, dPar, dPar3, dTryB, bSeq, bIf, bCall, bNil, dAug, iR3, dMod0, xStar, dRepO, dExcA, dTryK, dIsx, lose, loseV, dSeq, dRet, dRetN, dIfS, dTst, dTru, dOp, dVar, dVarK, dC, dChain, dNot, dAnd, dOr, dAndE, dOrE, dNotE, dBoolE, dIf, dFn, dB, dTup, dLst, dO, xNil, xCons, dNext, dSet, dSetO, dRel, relE, dExpr, dCall, dCallO, dCons, dNil, dPurA, dAsg, gdName, gdNil, gdCons, gdTup, dForS, dCut, dCutO, dNoP, dPart, dCatO, dListO, dLc, wipeE, dApp, dIns, dSetIx, dRaise, dRetO, dRetOE, dCount, dRev, iL, iT, iS, iR1, iR2, iEL, iET, iZ, dYes, s_tb, s_tn, s_ti, s_tl, s_tt, s_dd, s_do, s_ll, s_lt, s_ls, s_ul, s_ut, s_isStr_none, s_isStr_bool, s_isStr_int, s_isStr_str, s_isStr_list, s_isStr_tuple, s_isTup_none, s_isTup_bool, s_isTup_int, s_isTup_str, s_isTup_list, s_isTup_tuple, s_isLst_none, s_isLst_bool, s_isLst_int, s_isLst_str, s_isLst_list, s_isLst_tuple, s_isInt_none, s_isInt_bool, s_isInt_int, s_isInt_str, s_isInt_list, s_isInt_tuple, s_isBool_none, s_isBool_bool, s_isBool_int, s_isBool_str, s_isBool_list, s_isBool_tuple, s_isN_none, s_isN_bool, s_isN_int, s_isN_str, s_isN_list, s_isN_tuple, s_is, s_isnt, s_xl, s_xt, s_xs, s_cl, s_ct, s_cs, s_add, s_sub, s_lti, s_lei, s_gti, s_gei, s_min, s_max, s_neg, s_abs, s_os, at0, at1, at2, eqD_int, neD_int, List.getElem?_cons_zero, List.getElem?_cons_succ, List.set_cons_zero, List.set_cons_succ, List.map_cons, List.map_nil, Bool.false_eq_true, Bool.not_true, Bool.not_false, ite_true, ite_false, if_true, if_false, true_and, and_true]
          rw [abc_in]
          exact dif hy hn
        try simp only [dIsNv, dRevO, dPar, dPar3, dTryB, bSeq, bIf, bCall, bNil, dAug, iR3, dMod0, xStar, dRepO, dExcA, dTryK, dIsx, lose, loseV, dSeq, dRet, dRetN, dIfS, dTst, dTru, dOp, dVar, dVarK, dC, dChain, dNot, dAnd, dOr, dAndE, dOrE, dNotE, dBoolE, dIf, dFn, dB, dTup, dLst, dO, xNil, xCons, dNext, dSet, dSetO, dRel, relE, dExpr, dCall, dCallO, dCons, dNil, dPurA, dAsg, gdName, gdNil, gdCons, gdTup, dForS, dCut, dCutO, dNoP, dPart, dCatO, dListO, dLc, wipeE, dApp, dIns, dSetIx, dRaise, dRetO, dRetOE, dCount, dRev, iL, iT, iS, iR1, iR2, iEL, iET, iZ, dYes, s_tb, s_tn, s_ti, s_tl, s_tt, s_dd, s_do, s_ll, s_lt, s_ls, s_ul, s_ut, s_isStr_none, s_isStr_bool, s_isStr_int, s_isStr_str, s_isStr_list, s_isStr_tuple, s_isTup_none, s_isTup_bool, s_isTup_int, s_isTup_str, s_isTup_list, s_isTup_tuple, s_isLst_none, s_isLst_bool, s_isLst_int, s_isLst_str, s_isLst_list, s_isLst_tuple, s_isInt_none, s_isInt_bool, s_isInt_int, s_isInt_str, s_isInt_list, s_isInt_tuple, s_isBool_none, s_isBool_bool, s_isBool_int, s_isBool_str, s_isBool_list, s_isBool_tuple, s_isN_none, s_isN_bool, s_isN_int, s_isN_str, s_isN_list, s_isN_tuple, s_is, s_isnt, s_xl, s_xt, s_xs, s_cl, s_ct, s_cs, s_add, s_sub, s_lti, s_lei, s_gti, s_gei, s_min, s_max, s_neg, s_abs, s_os, at0, at1, at2, eqD_int, neD_int, List.getElem?_cons_zero, List.getElem?_cons_succ, List.set_cons_zero, List.set_cons_succ, List.map_cons, List.map_nil, Bool.false_eq_true, Bool.not_true, Bool.not_false, ite_true, ite_false, if_true, if_false, true_and, and_true]
        rw [eq_nl (fun d hd => by
          obtain ⟨c, _, rfl⟩ := List.mem_map.mp hd
          simp [signD, PyData.depth])]
        rw [show decide (List.map signD (List.filter (fun c => !isL c) z.cps.toList) = []) = z.cps.toList.all isL from by
          rw [← filter_nil, Bool.eq_iff_iff, decide_eq_true_iff, decide_eq_true_iff, List.map_eq_nil_iff]]
        exact ⟨le_dn rfl, h⟩
      | _ => exact h
    · exact h.elim

end
/-- .. the law's look at lines -/
def lineL (lo n : Int) (d : PyData) : Bool := if lo = 0 then amtD n d else lineD 1 n d
theorem lineD_l {lo n : Int} {ds : List PyData} : lineD lo n (.list ds) = (decide ((ds.length : Int) = n) && ds.all (withinD lo 1000000)) := rfl
theorem amtD_l {n : Int} {ds : List PyData} : amtD n (.list ds) = (lineD 0 n (.list ds) && ds.any posD) := rfl
theorem lineL_0 {n : Int} {d : PyData} : lineL 0 n d = amtD n d := if_pos rfl
theorem lineL_1 {n : Int} {d : PyData} : lineL 1 n d = lineD 1 n d := if_neg (by decide)
theorem lineL_no {lo n : Int} {ds : List PyData} (hlo : lo = 0 ∨ lo = 1) (h : lineD lo n (.list ds) = false) : lineL lo n (.list ds) = false := by
  rcases hlo with rfl | rfl
  · rw [lineL_0, amtD_l, h]
    rfl
  · rw [lineL_1, h]
theorem sum_zero : ∀ {ns : List Int}, (∀ n ∈ ns, 0 ≤ n) → decide (ns.sum = 0) = !((ns.map PyData.int).any posD)
  | [], _ => by simp
  | n :: r, h => by
    have h1 := h n List.mem_cons_self
    have ih := sum_zero (ns := r) fun x hx => h x (List.mem_cons_of_mem _ hx)
    have h0 : 0 ≤ r.sum := by
      clear ih
      induction r with
      | nil => simp
      | cons b s ih2 =>
        have := ih2 fun n hn => h n (by rcases List.mem_cons.mp hn with rfl | hn; exact List.mem_cons_self; exact List.mem_cons_of_mem _ (List.mem_cons_of_mem _ hn))
        have := h b (List.mem_cons_of_mem _ List.mem_cons_self)
        rw [List.sum_cons]
        omega
    rw [List.sum_cons, List.map_cons, List.any_cons, Bool.not_or, ← ih]
    show _ = (!(decide (0 < n)) && _)
    by_cases e : n = 0
    · subst e
      simp
    · rw [decide_eq_true (show 0 < n by omega), decide_eq_false (by omega)]
      rfl

abbrev s_Llineswrong : Stmt := topS 45
abbrev n_Llineswrong : List Str := ["_law_rows", "_law_many", "_law_least", "_law_k", "_law_row", "_law_one"]
theorem sc_Llineswrong : FnScope n_Llineswrong ["_law_rows", "_law_many", "_law_least"] (defScope s_Llineswrong) := ⟨rfl, rfl, rfl, by decide +kernel, rfl, by decide +kernel, by decide +kernel⟩
def G__law_lines_wrong : DSp := fun as T Q _ => match as with
  | [.d x, .d (.int n), .d (.int lo)] => ∃ rows, x = .list rows ∧ (lo = 0 ∨ lo = 1) ∧ 1 ≤ n ∧ n ≤ 1000 ∧ (∀ r ∈ rows, r.depth ≤ 60) ∧ Q (.d (match firstF (lineL lo n) 0 rows with | some k => .int (k : Nat) | none => .none)) T
  | _ => False
section
variable {P : Program} {w : World} {K : PySem.W.Frag} {mg : Str → Option Value} {base : Heap}
theorem ok_Llineswrong {f : Addr} {fd : FuncData} {k : Nat} {tb : List Addr} (F : Fun K "_law_lines_wrong" "_law_lines_wrong" s_Llineswrong f fd) (A__law_is_whole : AtD P w K mg base k tb "_law_is_whole" ["_law_thing"] (G__law_is_whole)) (m_enumerate : mg "enumerate" = none) (m_isinstance : mg "isinstance" = none) (m_len : mg "len" = none) (m_list : mg "list" = none) (m_sum : mg "sum" = none) : FnOk P w K mg base (L2.CX P w) (k + 1) f fd ["_law_rows", "_law_many", "_law_least"] (spF K tb (G__law_lines_wrong)) := by
  refine fnd F sc_Llineswrong (fun as T Q E h => ?_) (fun cdv A outer s H E hr => ⟨_, (pssd_cons (psd_for PassesOwn.never rfl (pid_enumL (by rfl) m_enumerate (pd_var (pv 0))) (pgy_tup (n := 2) rfl (pgsd_cons (pgd_name (i := 3) sc_Llineswrong.nd rfl (.inl rfl)) (pgsd_cons (pgd_name (i := 4) sc_Llineswrong.nd rfl (.inl rfl)) pgsd_nil))) (pssd_cons (psd_if (PWd.pt (pwd_or (ptd_not (ptd_tru (PD.k (pd_isi ki_list (by rfl) m_isinstance (by rfl) m_list (by decide +kernel) (pk_var (pv 4)))))) (pwd_or1 (ptd_cmp (opd_ne hr.units) (PD.k (pd_b1 cad_len (by rfl) m_len PySem.boot_len (pk_var (pv 4)))) (pk_var (pv 1)) (nomark _))))) (pssd_one (psd_ret (pd_var (pv 3)))) pssd_nil)
      (pssd_cons (psd_if (ptd_cmp (opd_ne hr.units) (PD.k (PDo.d (pdo_lc (own := [("_law_one", 5)]) (γ := (gdName 5)) (tt := (dOr (dNot (dTru (dCall (fun _ => False) G__law_is_whole (dCons (dVar 5) dNil)))) (dOr (dTst (dOp ltD (dVarK 5) (dVarK 2))) (dTst (dOp gtD (dVarK 5) (dOp powD (dC (.int 10)) (dC (.int 6)))))))) (te := (dVar 5)) (f := (iL (dVar 4))) rfl sc_Llineswrong.nd (pid_list (pd_var (pv 4))) (blkOk_by (own := [("_law_one", 5)]) (N := n_Llineswrong) (sc := defScope s_Llineswrong) (by decide +kernel)) (fun _ _ _ _ _ => (PGd.y (pgd_name (i := 5) sc_Llineswrong.nd rfl (.inl rfl)))) (fun _ _ _ _ _ => (ptsd_one (PWd.pt (pwd_or (ptd_not (ptd_tru (PD.k (pd_call A__law_is_whole hr (by rfl) (pad_cons (pd_var (pv 5)) pad_nil))))) (pwd_or (ptd_cmp opd_lt (pk_var (pv 5)) (pk_var (pv 2)) (nomark _)) (pwd_or1 (ptd_cmp opd_gt (pk_var (pv 5)) (PD.k (pd_op opd_pow (PD.k pd_int) (PD.k pd_int))) (nomark _)))))))) (fun _ _ _ _ _ => (pd_var (pv 5)))))) (PD.k (PDo.d (pdo_lst pxd_nil))) (nomark _)) (pssd_one (psd_ret (pd_var (pv 3)))) pssd_nil)
      (pssd_one (psd_if (PWd.pt (pwd_and (ptd_cmp (opd_eq hr.units) (pk_var (pv 2)) (PD.k pd_int) (nomark _)) (pwd_and1 (ptd_cmp (opd_eq hr.units) (PD.k (pd_b1 (cad_sum rfl) (by rfl) m_sum (by decide +kernel) (pk_var (pv 4)))) (PD.k pd_int) (nomark _))))) (pssd_one (psd_ret (pd_var (pv 3)))) pssd_nil)))))
      (pssd_one (psd_ret pd_non))), fun as T Qh Eh h => ?_⟩)
  · unfold G__law_lines_wrong at h
    split at h
    · rfl
    · exact h.elim
  · unfold G__law_lines_wrong at h
    split at h
    · rename_i x n lo
      obtain ⟨rows, rfl, hlo, hn, hn2, hd, h⟩ := h
      rw [show ∀ a0 a1 a2, startE n_Llineswrong [a0, a1, a2] = [a0, a1, a2, .no, .no, .no] from fun _ _ _ => rfl]
      try simp only [dIsNv, dRevO, dPar, dPar3, dTryB, bSeq, bIf, bCall, bNil, dAug, iR3, dMod0, xStar, dRepO, dExcA, dTryK, dIsx, lose, loseV, dSeq, dRet, dRetN, dIfS, dTst, dTru, dOp, dVar, dVarK, dC, dChain, dNot, dAnd, dOr, dAndE, dOrE, dNotE, dBoolE, dIf, dFn, dB, dTup, dLst, dO, xNil, xCons, dNext, dSet, dSetO, dRel, relE, dExpr, dCall, dCallO, dCons, dNil, dPurA, dAsg, gdName, gdNil, gdCons, gdTup, dForS, dCut, dCutO, dNoP, dPart, dCatO, dListO, dLc, wipeE, dApp, dIns, dSetIx, dRaise, dRetO, dRetOE, dCount, dRev, iL, iT, iS, iR1, iR2, iEL, iET, iZ, dYes, s_tb, s_tn, s_ti, s_tl, s_tt, s_dd, s_do, s_ll, s_lt, s_ls, s_ul, s_ut, s_isStr_none, s_isStr_bool, s_isStr_int, s_isStr_str, s_isStr_list, s_isStr_tuple, s_isTup_none, s_isTup_bool, s_isTup_int, s_isTup_str, s_isTup_list, s_isTup_tuple, s_isLst_none, s_isLst_bool, s_isLst_int, s_isLst_str, s_isLst_list, s_isLst_tuple, s_isInt_none, s_isInt_bool, s_isInt_int, s_isInt_str, s_isInt_list, s_isInt_tuple, s_isBool_none, s_isBool_bool, s_isBool_int, s_isBool_str, s_isBool_list, s_isBool_tuple, s_isN_none, s_isN_bool, s_isN_int, s_isN_str, s_isN_list, s_isN_tuple, s_is, s_isnt, s_xl, s_xt, s_xs, s_cl, s_ct, s_cs, s_add, s_sub, s_lti, s_lei, s_gti, s_gei, s_min, s_max, s_neg, s_abs, s_os, at0, at1, at2, eqD_int, neD_int, List.getElem?_cons_zero, List.getElem?_cons_succ, List.set_cons_zero, List.set_cons_succ, List.map_cons, List.map_nil, Bool.false_eq_true, Bool.not_true, Bool.not_false, ite_true, ite_false, if_true, if_false, true_and, and_true]
      unfold enumD
      refine dFor_map (fun (i : Nat) => PyData.tuple [.int i, rows.getD i .none]) (fun i E' T' => (∃ a b c, E' = [.d (.list rows), .d (.int n), .d (.int lo), a, b, c]) ∧ T = T' ∧ firstF (lineL lo n) 0 rows = firstF (lineL lo n) i (rows.drop i)) ⟨⟨_, _, _, rfl⟩, rfl, rfl⟩ (fun i i' E' T' K hi hI hK => ?_) (fun E' T' hI => ?_)
      · obtain ⟨⟨a, b, c, rfl⟩, rfl, hF⟩ := hI
        have hi2 : i < rows.length := by
          have := (List.getElem?_eq_some_iff.mp hi).1
          rw [List.length_range] at this
          exact this
        rw [List.getElem?_range hi2] at hi
        cases hi
        have hdr : (rows.getD i .none).depth ≤ 60 := by
          rw [List.getD_eq_getElem?_getD, List.getElem?_eq_getElem hi2]
          exact hd _ (List.getElem_mem hi2)
        rw [drop_getD hi2, firstF_cons] at hF
        generalize rows.getD i .none = row at hF hdr
        have bad : lineL lo n row = false → Qh (.d (.int (i : Nat))) T := fun e => by
          rw [e, if_neg Bool.false_ne_true] at hF
          rw [hF] at h
          exact h
        have good : lineL lo n row = true → ∀ a b c, K [.d (.list rows), .d (.int n), .d (.int lo), a, b, c] T := fun e a b c => by
          rw [e, if_pos rfl] at hF
          exact hK _ _ ⟨⟨_, _, _, rfl⟩, rfl, hF⟩
        refine ⟨rfl, ?_⟩
        simp only [gdCons, gdName, gdNil, List.set_cons_zero, List.set_cons_succ]
        refine dSeq_hide fun g hg => ?_
        cases row with
        | list ds =>
          try simp only [dIsNv, dRevO, dPar, dPar3, dTryB, bSeq, bIf, bCall, bNil, dAug, iR3, dMod0, xStar, dRepO, dExcA, dTryK, dIsx, lose, loseV, dSeq, dRet, dRetN, dIfS, dTst, dTru, dOp, dVar, dVarK, dC, dChain, dNot, dAnd, dOr, dAndE, dOrE, dNotE, dBoolE, dIf, dFn, dB, dTup, dLst, dO, xNil, xCons, dNext, dSet, dSetO, dRel, relE, dExpr, dCall, dCallO, dCons, dNil, dPurA, dAsg, gdName, gdNil, gdCons, gdTup, dForS, dCut, dCutO, dNoP, dPart, dCatO, dListO, dLc, wipeE, dApp, dIns, dSetIx, dRaise, dRetO, dRetOE, dCount, dRev, iL, iT, iS, iR1, iR2, iEL, iET, iZ, dYes, s_tb, s_tn, s_ti, s_tl, s_tt, s_dd, s_do, s_ll, s_lt, s_ls, s_ul, s_ut, s_isStr_none, s_isStr_bool, s_isStr_int, s_isStr_str, s_isStr_list, s_isStr_tuple, s_isTup_none, s_isTup_bool, s_isTup_int, s_isTup_str, s_isTup_list, s_isTup_tuple, s_isLst_none, s_isLst_bool, s_isLst_int, s_isLst_str, s_isLst_list, s_isLst_tuple, s_isInt_none, s_isInt_bool, s_isInt_int, s_isInt_str, s_isInt_list, s_isInt_tuple, s_isBool_none, s_isBool_bool, s_isBool_int, s_isBool_str, s_isBool_list, s_isBool_tuple, s_isN_none, s_isN_bool, s_isN_int, s_isN_str, s_isN_list, s_isN_tuple, s_is, s_isnt, s_xl, s_xt, s_xs, s_cl, s_ct, s_cs, s_add, s_sub, s_lti, s_lei, s_gti, s_gei, s_min, s_max, s_neg, s_abs, s_os, at0, at1, at2, eqD_int, neD_int, List.getElem?_cons_zero, List.getElem?_cons_succ, List.set_cons_zero, List.set_cons_succ, List.map_cons, List.map_nil, Bool.false_eq_true, Bool.not_true, Bool.not_false, ite_true, ite_false, if_true, if_false, true_and, and_true]
          have notlen : ¬ (ds.length : Int) = n → lineL lo n (.list ds) = false := fun e => lineL_no hlo (by rw [lineD_l, decide_eq_false e]; rfl)
          refine dif (fun e => bad (notlen (of_decide_eq_false (nT e)))) (fun e => ?_)
          have el : (ds.length : Int) = n := of_decide_eq_true (nF e)
          subst hg
          refine dSeq_hide fun g hg => ?_
          try simp only [dIsNv, dRevO, dPar, dPar3, dTryB, bSeq, bIf, bCall, bNil, dAug, iR3, dMod0, xStar, dRepO, dExcA, dTryK, dIsx, lose, loseV, dSeq, dRet, dRetN, dIfS, dTst, dTru, dOp, dVar, dVarK, dC, dChain, dNot, dAnd, dOr, dAndE, dOrE, dNotE, dBoolE, dIf, dFn, dB, dTup, dLst, dO, xNil, xCons, dNext, dSet, dSetO, dRel, relE, dExpr, dCall, dCallO, dCons, dNil, dPurA, dAsg, gdName, gdNil, gdCons, gdTup, dForS, dCut, dCutO, dNoP, dPart, dCatO, dListO, dLc, wipeE, dApp, dIns, dSetIx, dRaise, dRetO, dRetOE, dCount, dRev, iL, iT, iS, iR1, iR2, iEL, iET, iZ, dYes, s_tb, s_tn, s_ti, s_tl, s_tt, s_dd, s_do, s_ll, s_lt, s_ls, s_ul, s_ut, s_isStr_none, s_isStr_bool, s_isStr_int, s_isStr_str, s_isStr_list, s_isStr_tuple, s_isTup_none, s_isTup_bool, s_isTup_int, s_isTup_str, s_isTup_list, s_isTup_tuple, s_isLst_none, s_isLst_bool, s_isLst_int, s_isLst_str, s_isLst_list, s_isLst_tuple, s_isInt_none, s_isInt_bool, s_isInt_int, s_isInt_str, s_isInt_list, s_isInt_tuple, s_isBool_none, s_isBool_bool, s_isBool_int, s_isBool_str, s_isBool_list, s_isBool_tuple, s_isN_none, s_isN_bool, s_isN_int, s_isN_str, s_isN_list, s_isN_tuple, s_is, s_isnt, s_xl, s_xt, s_xs, s_cl, s_ct, s_cs, s_add, s_sub, s_lti, s_lei, s_gti, s_gei, s_min, s_max, s_neg, s_abs, s_os, at0, at1, at2, eqD_int, neD_int, List.getElem?_cons_zero, List.getElem?_cons_succ, List.set_cons_zero, List.set_cons_succ, List.map_cons, List.map_nil, Bool.false_eq_true, Bool.not_true, Bool.not_false, ite_true, ite_false, if_true, if_false, true_and, and_true]
          refine dLc_pure (fun d => !withinD lo 1000000 d) id (by omega) (fun d Ky Kn hdm hy hn => ?_) ?_
          · try simp only [dIsNv, dRevO, dPar, dPar3, dTryB, bSeq, bIf, bCall, bNil, dAug, iR3, dMod0, xStar, dRepO, dExcA, dTryK, dIsx, lose, loseV, dSeq, dRet, dRetN, dIfS, dTst, dTru, dOp, dVar, dVarK, dC, dChain, dNot, dAnd, dOr, dAndE, dOrE, dNotE, dBoolE, dIf, dFn, dB, dTup, dLst, dO, xNil, xCons, dNext, dSet, dSetO, dRel, relE, dExpr, dCall, dCallO, dCons, dNil, dPurA, dAsg, gdName, gdNil, gdCons, gdTup, dForS, dCut, dCutO, dNoP, dPart, dCatO, dListO, dLc, wipeE, dApp, dIns, dSetIx, dRaise, dRetO, dRetOE, dCount, dRev, iL, iT, iS, iR1, iR2, iEL, iET, iZ, dYes, s_tb, s_tn, s_ti, s_tl, s_tt, s_dd, s_do, s_ll, s_lt, s_ls, s_ul, s_ut, s_isStr_none, s_isStr_bool, s_isStr_int, s_isStr_str, s_isStr_list, s_isStr_tuple, s_isTup_none, s_isTup_bool, s_isTup_int, s_isTup_str, s_isTup_list, s_isTup_tuple, s_isLst_none, s_isLst_bool, s_isLst_int, s_isLst_str, s_isLst_list, s_isLst_tuple, s_isInt_none, s_isInt_bool, s_isInt_int, s_isInt_str, s_isInt_list, s_isInt_tuple, s_isBool_none, s_isBool_bool, s_isBool_int, s_isBool_str, s_isBool_list, s_isBool_tuple, s_isN_none, s_isN_bool, s_isN_int, s_isN_str, s_isN_list, s_isN_tuple, s_is, s_isnt, s_xl, s_xt, s_xs, s_cl, s_ct, s_cs, s_add, s_sub, s_lti, s_lei, s_gti, s_gei, s_min, s_max, s_neg, s_abs, s_os, at0, at1, at2, eqD_int, neD_int, List.getElem?_cons_zero, List.getElem?_cons_succ, List.set_cons_zero, List.set_cons_succ, List.map_cons, List.map_nil, Bool.false_eq_true, Bool.not_true, Bool.not_false, ite_true, ite_false, if_true, if_false, true_and, and_true]
            cases d with
            | int v =>
              try simp only [dIsNv, dRevO, dPar, dPar3, dTryB, bSeq, bIf, bCall, bNil, dAug, iR3, dMod0, xStar, dRepO, dExcA, dTryK, dIsx, lose, loseV, dSeq, dRet, dRetN, dIfS, dTst, dTru, dOp, dVar, dVarK, dC, dChain, dNot, dAnd, dOr, dAndE, dOrE, dNotE, dBoolE, dIf, dFn, dB, dTup, dLst, dO, xNil, xCons, dNext, dSet, dSetO, dRel, relE, dExpr, dCall, dCallO, dCons, dNil, dPurA, dAsg, gdName, gdNil, gdCons, gdTup, dForS, dCut, dCutO, dNoP, dPart, dCatO, dListO, dLc, wipeE, dApp, dIns, dSetIx, dRaise, dRetO, dRetOE, dCount, dRev, iL, iT, iS, iR1, iR2, iEL, iET, iZ, dYes, s_tb, s_tn, s_ti, s_tl, s_tt, s_dd, s_do, s_ll, s_lt, s_ls, s_ul, s_ut, s_isStr_none, s_isStr_bool, s_isStr_int, s_isStr_str, s_isStr_list, s_isStr_tuple, s_isTup_none, s_isTup_bool, s_isTup_int, s_isTup_str, s_isTup_list, s_isTup_tuple, s_isLst_none, s_isLst_bool, s_isLst_int, s_isLst_str, s_isLst_list, s_isLst_tuple, s_isInt_none, s_isInt_bool, s_isInt_int, s_isInt_str, s_isInt_list, s_isInt_tuple, s_isBool_none, s_isBool_bool, s_isBool_int, s_isBool_str, s_isBool_list, s_isBool_tuple, s_isN_none, s_isN_bool, s_isN_int, s_isN_str, s_isN_list, s_isN_tuple, s_is, s_isnt, s_xl, s_xt, s_xs, s_cl, s_ct, s_cs, s_add, s_sub, s_lti, s_lei, s_gti, s_gei, s_min, s_max, s_neg, s_abs, s_os, at0, at1, at2, eqD_int, neD_int, List.getElem?_cons_zero, List.getElem?_cons_succ, List.set_cons_zero, List.set_cons_succ, List.map_cons, List.map_nil, Bool.false_eq_true, Bool.not_true, Bool.not_false, ite_true, ite_false, if_true, if_false, true_and, and_true]
              have e1 : withinD lo 1000000 (.int v) = (decide (lo ≤ v) && decide (v ≤ 1000000)) := rfl
              rw [e1] at hy hn
              refine dif (fun e => hy (by rw [decide_eq_false (by have := of_decide_eq_true e; omega)]; rfl)) (fun e => ?_)
              have e2 := of_decide_eq_false e
              rw [decide_eq_true (show lo ≤ v by omega)] at hy hn
              refine dif (fun e => hy (by have e3 : (1000000 : Int) < v := of_decide_eq_true e; rw [decide_eq_false (by omega)]; rfl)) (fun e => hn (by have e3 : ¬ (1000000 : Int) < v := of_decide_eq_false e; rw [decide_eq_true (by omega)]; rfl))
            | _ => exact hy rfl
          rw [List.map_id]
          rw [ne_nl (fun d hdm => by
            have := (depth_mem (List.mem_filter.mp hdm).1).1
            omega), filter_nil]
          try simp only [dIsNv, dRevO, dPar, dPar3, dTryB, bSeq, bIf, bCall, bNil, dAug, iR3, dMod0, xStar, dRepO, dExcA, dTryK, dIsx, lose, loseV, dSeq, dRet, dRetN, dIfS, dTst, dTru, dOp, dVar, dVarK, dC, dChain, dNot, dAnd, dOr, dAndE, dOrE, dNotE, dBoolE, dIf, dFn, dB, dTup, dLst, dO, xNil, xCons, dNext, dSet, dSetO, dRel, relE, dExpr, dCall, dCallO, dCons, dNil, dPurA, dAsg, gdName, gdNil, gdCons, gdTup, dForS, dCut, dCutO, dNoP, dPart, dCatO, dListO, dLc, wipeE, dApp, dIns, dSetIx, dRaise, dRetO, dRetOE, dCount, dRev, iL, iT, iS, iR1, iR2, iEL, iET, iZ, dYes, s_tb, s_tn, s_ti, s_tl, s_tt, s_dd, s_do, s_ll, s_lt, s_ls, s_ul, s_ut, s_isStr_none, s_isStr_bool, s_isStr_int, s_isStr_str, s_isStr_list, s_isStr_tuple, s_isTup_none, s_isTup_bool, s_isTup_int, s_isTup_str, s_isTup_list, s_isTup_tuple, s_isLst_none, s_isLst_bool, s_isLst_int, s_isLst_str, s_isLst_list, s_isLst_tuple, s_isInt_none, s_isInt_bool, s_isInt_int, s_isInt_str, s_isInt_list, s_isInt_tuple, s_isBool_none, s_isBool_bool, s_isBool_int, s_isBool_str, s_isBool_list, s_isBool_tuple, s_isN_none, s_isN_bool, s_isN_int, s_isN_str, s_isN_list, s_isN_tuple, s_is, s_isnt, s_xl, s_xt, s_xs, s_cl, s_ct, s_cs, s_add, s_sub, s_lti, s_lei, s_gti, s_gei, s_min, s_max, s_neg, s_abs, s_os, at0, at1, at2, eqD_int, neD_int, List.getElem?_cons_zero, List.getElem?_cons_succ, List.set_cons_zero, List.set_cons_succ, List.map_cons, List.map_nil, Bool.false_eq_true, Bool.not_true, Bool.not_false, ite_true, ite_false, if_true, if_false, true_and, and_true]
          have notw : ds.all (withinD lo 1000000) = false → lineL lo n (.list ds) = false := fun e => lineL_no hlo (by rw [lineD_l, e, Bool.and_false])
          refine ⟨le_dn rfl, ?_⟩
          refine dif (fun e => bad (notw (nT e))) (fun e => ?_)
          have ew : ds.all (withinD lo 1000000) = true := nF e
          subst hg
          try simp only [dIsNv, dRevO, dPar, dPar3, dTryB, bSeq, bIf, bCall, bNil, dAug, iR3, dMod0, xStar, dRepO, dExcA, dTryK, dIsx, lose, loseV, dSeq, dRet, dRetN, dIfS, dTst, dTru, dOp, dVar, dVarK, dC, dChain, dNot, dAnd, dOr, dAndE, dOrE, dNotE, dBoolE, dIf, dFn, dB, dTup, dLst, dO, xNil, xCons, dNext, dSet, dSetO, dRel, relE, dExpr, dCall, dCallO, dCons, dNil, dPurA, dAsg, gdName, gdNil, gdCons, gdTup, dForS, dCut, dCutO, dNoP, dPart, dCatO, dListO, dLc, wipeE, dApp, dIns, dSetIx, dRaise, dRetO, dRetOE, dCount, dRev, iL, iT, iS, iR1, iR2, iEL, iET, iZ, dYes, s_tb, s_tn, s_ti, s_tl, s_tt, s_dd, s_do, s_ll, s_lt, s_ls, s_ul, s_ut, s_isStr_none, s_isStr_bool, s_isStr_int, s_isStr_str, s_isStr_list, s_isStr_tuple, s_isTup_none, s_isTup_bool, s_isTup_int, s_isTup_str, s_isTup_list, s_isTup_tuple, s_isLst_none, s_isLst_bool, s_isLst_int, s_isLst_str, s_isLst_list, s_isLst_tuple, s_isInt_none, s_isInt_bool, s_isInt_int, s_isInt_str, s_isInt_list, s_isInt_tuple, s_isBool_none, s_isBool_bool, s_isBool_int, s_isBool_str, s_isBool_list, s_isBool_tuple, s_isN_none, s_isN_bool, s_isN_int, s_isN_str, s_isN_list, s_isN_tuple, s_is, s_isnt, s_xl, s_xt, s_xs, s_cl, s_ct, s_cs, s_add, s_sub, s_lti, s_lei, s_gti, s_gei, s_min, s_max, s_neg, s_abs, s_os, at0, at1, at2, eqD_int, neD_int, List.getElem?_cons_zero, List.getElem?_cons_succ, List.set_cons_zero, List.set_cons_succ, List.map_cons, List.map_nil, Bool.false_eq_true, Bool.not_true, Bool.not_false, ite_true, ite_false, if_true, if_false, true_and, and_true]
          obtain ⟨ns, rfl⟩ := within_map ew
          have e0 : lineD lo n (.list (ns.map PyData.int)) = true := by
            show (decide _ && _) = true
            rw [ew, decide_eq_true el]
            rfl
          rcases hlo with rfl | rfl
          · refine dif (fun _ => ?_) (fun e => absurd e (by decide))
            have e3 : lineL 0 n (.list (ns.map PyData.int)) = (ns.map PyData.int).any posD := by rw [lineL_0, amtD_l, e0, Bool.true_and]
            rw [sumD_map]
            try simp only [dIsNv, dRevO, dPar, dPar3, dTryB, bSeq, bIf, bCall, bNil, dAug, iR3, dMod0, xStar, dRepO, dExcA, dTryK, dIsx, lose, loseV, dSeq, dRet, dRetN, dIfS, dTst, dTru, dOp, dVar, dVarK, dC, dChain, dNot, dAnd, dOr, dAndE, dOrE, dNotE, dBoolE, dIf, dFn, dB, dTup, dLst, dO, xNil, xCons, dNext, dSet, dSetO, dRel, relE, dExpr, dCall, dCallO, dCons, dNil, dPurA, dAsg, gdName, gdNil, gdCons, gdTup, dForS, dCut, dCutO, dNoP, dPart, dCatO, dListO, dLc, wipeE, dApp, dIns, dSetIx, dRaise, dRetO, dRetOE, dCount, dRev, iL, iT, iS, iR1, iR2, iEL, iET, iZ, dYes, s_tb, s_tn, s_ti, s_tl, s_tt, s_dd, s_do, s_ll, s_lt, s_ls, s_ul, s_ut, s_isStr_none, s_isStr_bool, s_isStr_int, s_isStr_str, s_isStr_list, s_isStr_tuple, s_isTup_none, s_isTup_bool, s_isTup_int, s_isTup_str, s_isTup_list, s_isTup_tuple, s_isLst_none, s_isLst_bool, s_isLst_int, s_isLst_str, s_isLst_list, s_isLst_tuple, s_isInt_none, s_isInt_bool, s_isInt_int, s_isInt_str, s_isInt_list, s_isInt_tuple, s_isBool_none, s_isBool_bool, s_isBool_int, s_isBool_str, s_isBool_list, s_isBool_tuple, s_isN_none, s_isN_bool, s_isN_int, s_isN_str, s_isN_list, s_isN_tuple, s_is, s_isnt, s_xl, s_xt, s_xs, s_cl, s_ct, s_cs, s_add, s_sub, s_lti, s_lei, s_gti, s_gei, s_min, s_max, s_neg, s_abs, s_os, at0, at1, at2, eqD_int, neD_int, List.getElem?_cons_zero, List.getElem?_cons_succ, List.set_cons_zero, List.set_cons_succ, List.map_cons, List.map_nil, Bool.false_eq_true, Bool.not_true, Bool.not_false, ite_true, ite_false, if_true, if_false, true_and, and_true]
            rw [sum_zero (fun v hv => by
              have h1 := List.all_eq_true.mp ew (.int v) (List.mem_map.mpr ⟨v, hv, rfl⟩)
              have h2 : (decide (0 ≤ v) && decide (v ≤ 1000000)) = true := h1
              rw [Bool.and_eq_true, decide_eq_true_iff] at h2
              exact h2.1), ← e3]
            exact dif (fun e => bad (nT e)) (fun e => good (nF e) _ _ _)
          · refine dif (fun e => absurd e (by decide)) (fun _ => ?_)
            refine good ?_ _ _ _
            rw [lineL_1]
            exact e0
        | _ =>
          try simp only [dIsNv, dRevO, dPar, dPar3, dTryB, bSeq, bIf, bCall, bNil, dAug, iR3, dMod0, xStar, dRepO, dExcA, dTryK, dIsx, lose, loseV, dSeq, dRet, dRetN, dIfS, dTst, dTru, dOp, dVar, dVarK, dC, dChain, dNot, dAnd, dOr, dAndE, dOrE, dNotE, dBoolE, dIf, dFn, dB, dTup, dLst, dO, xNil, xCons, dNext, dSet, dSetO, dRel, relE, dExpr, dCall, dCallO, dCons, dNil, dPurA, dAsg, gdName, gdNil, gdCons, gdTup, dForS, dCut, dCutO, dNoP, dPart, dCatO, dListO, dLc, wipeE, dApp, dIns, dSetIx, dRaise, dRetO, dRetOE, dCount, dRev, iL, iT, iS, iR1, iR2, iEL, iET, iZ, dYes, s_tb, s_tn, s_ti, s_tl, s_tt, s_dd, s_do, s_ll, s_lt, s_ls, s_ul, s_ut, s_isStr_none, s_isStr_bool, s_isStr_int, s_isStr_str, s_isStr_list, s_isStr_tuple, s_isTup_none, s_isTup_bool, s_isTup_int, s_isTup_str, s_isTup_list, s_isTup_tuple, s_isLst_none, s_isLst_bool, s_isLst_int, s_isLst_str, s_isLst_list, s_isLst_tuple, s_isInt_none, s_isInt_bool, s_isInt_int, s_isInt_str, s_isInt_list, s_isInt_tuple, s_isBool_none, s_isBool_bool, s_isBool_int, s_isBool_str, s_isBool_list, s_isBool_tuple, s_isN_none, s_isN_bool, s_isN_int, s_isN_str, s_isN_list, s_isN_tuple, s_is, s_isnt, s_xl, s_xt, s_xs, s_cl, s_ct, s_cs, s_add, s_sub, s_lti, s_lei, s_gti, s_gei, s_min, s_max, s_neg, s_abs, s_os, at0, at1, at2, eqD_int, neD_int, List.getElem?_cons_zero, List.getElem?_cons_succ, List.set_cons_zero, List.set_cons_succ, List.map_cons, List.map_nil, Bool.false_eq_true, Bool.not_true, Bool.not_false, ite_true, ite_false, if_true, if_false, true_and, and_true]
          refine bad ?_
          unfold lineL
          split <;> rfl
      obtain ⟨⟨a, b, c, rfl⟩, rfl, hF⟩ := hI
      rw [List.length_range, List.drop_of_length_le (Nat.le_refl _)] at hF
      rw [hF] at h
      exact h
    · exact h.elim

end
end Dv
set_option Elab.async false
set_option linter.all false
set_option maxRecDepth 100000
set_option maxHeartbeats 1000000
namespace Dv
open PySem PySem.Spec PyProof.Rows L2
theorem dSeq_cut {g1 g2 : DS} {E : Env'} {T : Nat} {D : DEnds} (R : Env' → Nat → Prop) (h2 : ∀ E' T', R E' T' → g2 E' T' D) (h1 : ∀ N : Env' → Nat → Prop, (∀ E' T', R E' T' → N E' T') → g1 E T { D with nx := N }) : dSeq g1 g2 E T D := h1 _ h2
theorem mkF_l {a : PyData} {ps qs : List PyData} : mkForm (.tuple [a, .list ps, .list qs]) = (decide ((qs.length : Int) = (ps.length : Int)) && (decide (1 ≤ (ps.length : Int)) && decide ((ps.length : Int) ≤ 24))) := rfl
theorem goodsD_l {ds : List PyData} : goodsD (.tuple ds) = (decide (1 ≤ (ds.length : Int)) && (decide ((ds.length : Int) ≤ 8) && nameD ds)) := rfl
theorem mk_lst {a b c : PyData} (h : mkForm (.tuple [a, b, c]) = true) : isLst b = true ∧ isLst c = true := by
  obtain ⟨g, ps, qs, e, _⟩ := mk_split h
  cases e
  exact ⟨rfl, rfl⟩
theorem wordS {m : Int} {d : PyData} (h : isWordD m d = true) : ∃ z, d = .str z := by
  cases d with
  | str z => exact ⟨z, rfl⟩
  | _ => exact absurd h Bool.false_ne_true
theorem wordsS {m : Int} : ∀ {ds : List PyData}, ds.all (isWordD m) = true → ∃ zs : List Str, ds = zs.map PyData.str
  | [], _ => ⟨[], rfl⟩
  | d :: r, h => by
    rw [List.all_cons, Bool.and_eq_true] at h
    obtain ⟨zs, e⟩ := wordsS h.2
    obtain ⟨z, e2⟩ := wordS h.1
    exact ⟨z :: zs, by rw [List.map_cons, e, e2]⟩
theorem count_strs (zs : List Str) (z : Str) : (zs.map PyData.str).countP (fun e => PyData.eqv e (.str z)) = zs.count z := by
  rw [List.countP_map, List.count]
  refine List.countP_congr fun y _ => ?_
  show PyData.eqv (.str y) (.str z) = true ↔ _
  rw [eqv_str, decide_eq_true_iff, beq_iff_eq]
theorem name_count (gs : List PyData) : (gs.all fun d => isWordD 8 d && decide (((gs.countP fun e => PyData.eqv e d : Nat) : Int) = 1)) = nameD gs := by
  unfold nameD
  cases h : gs.all (isWordD 8) with
  | false =>
    rw [Bool.false_and]
    cases h2 : (gs.all fun d => isWordD 8 d && decide (((gs.countP fun e => PyData.eqv e d : Nat) : Int) = 1)) with
    | false => rfl
    | true =>
      rw [List.all_eq_true] at h2
      have : gs.all (isWordD 8) = true := List.all_eq_true.mpr fun d hd => (Bool.and_eq_true_iff.mp (h2 d hd)).1
      rw [this] at h
      cases h
  | true =>
    obtain ⟨zs, rfl⟩ := wordsS h
    rw [Bool.true_and, show (zs.map PyData.str).map strOf = zs from by rw [List.map_map]; exact List.map_id zs, Bool.eq_iff_iff, List.all_eq_true, decide_eq_true_iff]
    constructor
    · intro h2
      rw [List.nodup_iff_count]
      intro z
      by_cases hz : z ∈ zs
      · have := (Bool.and_eq_true_iff.mp (h2 (.str z) (List.mem_map.mpr ⟨z, hz, rfl⟩))).2
        rw [count_strs, decide_eq_true_iff] at this
        omega
      · rw [List.count_eq_zero.mpr hz]
        omega
    · intro h2 d hd
      obtain ⟨z, hz, rfl⟩ := List.mem_map.mp hd
      rw [count_strs, Bool.and_eq_true, decide_eq_true_iff]
      refine ⟨List.all_eq_true.mp h _ hd, ?_⟩
      have h3 := List.nodup_iff_count.mp h2 z
      have h4 := List.count_pos_iff.mpr hz
      omega

abbrev s_Lwrong : Stmt := topS 46
abbrev n_Lwrong : List Str := ["_law_thing", "_law_one", "_law_goods_here", "_law_name", "_law_word", "_law_rows", "_law_least", "_law_k"]
theorem sc_Lwrong : FnScope n_Lwrong ["_law_thing"] (defScope s_Lwrong) := ⟨rfl, rfl, rfl, by decide +kernel, rfl, by decide +kernel, by decide +kernel⟩
def G__law_wrong : DSp := fun as T Q _ => match as with
  | [.d x] => x.depth ≤ 60 ∧ Q (.d (mwrong x)) T
  | _ => False
section
variable {P : Program} {w : World} {K : PySem.W.Frag} {mg : Str → Option Value} {base : Heap}
theorem ok_Lwrong {f : Addr} {fd : FuncData} {k : Nat} {tb : List Addr} (F : Fun K "_law_wrong" "_law_wrong" s_Lwrong f fd) (A__law_is_name : AtD P w K mg base k tb "_law_is_name" ["_law_thing"] (G__law_is_name)) (A__law_lines_wrong : AtD P w K mg base k tb "_law_lines_wrong" ["_law_rows", "_law_many", "_law_least"] (G__law_lines_wrong)) (m_isinstance : mg "isinstance" = none) (m_len : mg "len" = none) (m_list : mg "list" = none) (m_tuple : mg "tuple" = none) : FnOk P w K mg base (L2.CX P w) (k + 1) f fd ["_law_thing"] (spF K tb (G__law_wrong)) := by
  refine fnd F sc_Lwrong (fun as T Q E h => ?_) (fun cdv A outer s H E hr => ⟨_, (pssd_cons (psd_if (PWd.pt (pwd_or (ptd_not (ptd_tru (PD.k (pd_isi ki_tuple (by rfl) m_isinstance (by rfl) m_tuple (by decide +kernel) (pk_var (pv 0)))))) (pwd_or (ptd_cmp (opd_ne hr.units) (PD.k (pd_b1 cad_len (by rfl) m_len PySem.boot_len (pk_var (pv 0)))) (PD.k pd_int) (nomark _)) (pwd_or1 (ptd_cmp (opd_ne hr.units) (PD.k (PDo.d (pdo_lc (own := [("_law_one", 1)]) (γ := (gdName 1)) (tt := (dNot (dTru (dB isLst (dVarK 1))))) (te := (dVar 1)) (f := (iT (dCut (dVarK 0) (dPart (dC (.int 1))) dNoP))) rfl sc_Lwrong.nd (pid_tup (pd_cut (pk_var (pv 0)) (pod_some pd_int) pod_none)) (blkOk_by (own := [("_law_one", 1)]) (N := n_Lwrong) (sc := defScope s_Lwrong) (by decide +kernel)) (fun _ _ _ _ _ => (PGd.y (pgd_name (i := 1) sc_Lwrong.nd rfl (.inl rfl)))) (fun _ _ _ _ _ => (ptsd_one (ptd_not (ptd_tru (PD.k (pd_isi ki_list (by rfl) m_isinstance (by rfl) m_list (by decide +kernel) (pk_var (pv 1)))))))) (fun _ _ _ _ _ => (pd_var (pv 1)))))) (PD.k (PDo.d (pdo_lst pxd_nil))) (nomark _)))))) (pssd_one (psd_ret (pd_tup (pxd_cons pd_str pxd_nil)))) pssd_nil)
      (pssd_cons (psd_if (PWd.pt (pwd_or (ptd_cmp (opd_ne hr.units) (PD.k (pd_b1 cad_len (by rfl) m_len PySem.boot_len (PD.k (pd_ix (pk_var (pv 0)) (PD.k pd_int) (fun _ _ => rfl))))) (PD.k (pd_b1 cad_len (by rfl) m_len PySem.boot_len (PD.k (pd_ix (pk_var (pv 0)) (PD.k pd_int) (fun _ _ => rfl))))) (nomark _)) (pwd_or1 (ptd_not (ptd_chain opd_le opd_le (PD.k pd_int) (PD.k (pd_b1 cad_len (by rfl) m_len PySem.boot_len (PD.k (pd_ix (pk_var (pv 0)) (PD.k pd_int) (fun _ _ => rfl))))) (PD.k pd_int)))))) (pssd_one (psd_ret (pd_tup (pxd_cons pd_str pxd_nil)))) pssd_nil)
      (pssd_cons (psd_set (i := 2) sc_Lwrong.nd rfl (.inr rfl) (pd_ix (pk_var (pv 0)) (PD.k pd_int) (fun _ _ => rfl)))
      (pssd_cons (psd_if (PWd.pt (pwd_or (ptd_not (ptd_tru (PD.k (pd_isi ki_tuple (by rfl) m_isinstance (by rfl) m_tuple (by decide +kernel) (pk_var (pv 2)))))) (pwd_or1 (ptd_not (ptd_chain opd_le opd_le (PD.k pd_int) (PD.k (pd_b1 cad_len (by rfl) m_len PySem.boot_len (pk_var (pv 2)))) (PD.k pd_int)))))) (pssd_one (psd_ret (pd_tup (pxd_cons pd_str pxd_nil)))) pssd_nil)
      (pssd_cons (psd_if (ptd_cmp (opd_ne hr.units) (PD.k (PDo.d (pdo_lc (own := [("_law_name", 3)]) (γ := (gdName 3)) (tt := (dOr (dNot (dTru (dCall (fun _ => False) G__law_is_name (dCons (dVar 3) dNil)))) (dTst (dOp neD (dCount (dVarK 2) (dVarK 3)) (dC (.int 1)))))) (te := (dVar 3)) (f := (iT (dVar 2))) rfl sc_Lwrong.nd (pid_tup (pd_var (pv 2))) (blkOk_by (own := [("_law_name", 3)]) (N := n_Lwrong) (sc := defScope s_Lwrong) (by decide +kernel)) (fun _ _ _ _ _ => (PGd.y (pgd_name (i := 3) sc_Lwrong.nd rfl (.inl rfl)))) (fun _ _ _ _ _ => (ptsd_one (PWd.pt (pwd_or (ptd_not (ptd_tru (PD.k (pd_call A__law_is_name hr (by rfl) (pad_cons (pd_var (pv 3)) pad_nil))))) (pwd_or1 (ptd_cmp (opd_ne hr.units) (PD.k (pd_count hr.u65 (pk_var (pv 2)) (pk_var (pv 3)))) (PD.k pd_int) (nomark _))))))) (fun _ _ _ _ _ => (pd_var (pv 3)))))) (PD.k (PDo.d (pdo_lst pxd_nil))) (nomark _)) (pssd_one (psd_ret (pd_tup (pxd_cons pd_str pxd_nil)))) pssd_nil)
      (pssd_cons (psd_for PassesOwn.never rfl (pid_list (PDo.d (pdo_lst (pxd_cons (pd_tup (pxd_cons pd_str (pxd_cons (pd_ix (pk_var (pv 0)) (PD.k pd_int) (fun _ _ => rfl)) (pxd_cons pd_int pxd_nil)))) (pxd_cons (pd_tup (pxd_cons pd_str (pxd_cons (pd_ix (pk_var (pv 0)) (PD.k pd_int) (fun _ _ => rfl)) (pxd_cons pd_int pxd_nil)))) pxd_nil))))) (PGd.y (pgd_tup (n := 3) rfl (pgsd_cons (pgd_name (i := 4) sc_Lwrong.nd rfl (.inl rfl)) (pgsd_cons (pgd_name (i := 5) sc_Lwrong.nd rfl (.inl rfl)) (pgsd_cons (pgd_name (i := 6) sc_Lwrong.nd rfl (.inl rfl)) pgsd_nil))))) (pssd_cons (psd_set (i := 7) sc_Lwrong.nd rfl (.inl rfl) (pd_call A__law_lines_wrong hr (by rfl) (pad_cons (pd_var (pv 5)) (pad_cons (pd_b1 cad_len (by rfl) m_len PySem.boot_len (pk_var (pv 2))) (pad_cons (pd_var (pv 6)) pad_nil)))))
      (pssd_one (psd_if (ptd_cmp opd_isnt (pk_var (pv 7)) (PD.k pd_non) rfl) (pssd_one (psd_ret (pd_tup (pxd_cons (pd_var (pv 4)) (pxd_cons (pd_var (pv 7)) pxd_nil))))) pssd_nil))))
      (pssd_one (psd_ret pd_non)))))))), fun as T Qh Eh h => ?_⟩)
  · unfold G__law_wrong at h
    split at h
    · rfl
    · exact h.elim
  · unfold G__law_wrong at h
    split at h
    · rename_i x
      obtain ⟨hd, h⟩ := h
      have market : mkForm x = false → Qh (.d (.tuple [.str "market"])) T := fun e => by
        rw [mw_form e] at h
        exact h
      rw [show ∀ a0, startE n_Lwrong [a0] = [a0, .no, .no, .no, .no, .no, .no, .no] from fun _ => rfl]
      cases x with
      | tuple ds =>
        refine dSeq_hide fun g hg => ?_
        try simp only [dIsNv, dRevO, dPar, dPar3, dTryB, bSeq, bIf, bCall, bNil, dAug, iR3, dMod0, xStar, dRepO, dExcA, dTryK, dIsx, lose, loseV, dSeq, dRet, dRetN, dIfS, dTst, dTru, dOp, dVar, dVarK, dC, dChain, dNot, dAnd, dOr, dAndE, dOrE, dNotE, dBoolE, dIf, dFn, dB, dTup, dLst, dO, xNil, xCons, dNext, dSet, dSetO, dRel, relE, dExpr, dCall, dCallO, dCons, dNil, dPurA, dAsg, gdName, gdNil, gdCons, gdTup, dForS, dCut, dCutO, dNoP, dPart, dCatO, dListO, dLc, wipeE, dApp, dIns, dSetIx, dRaise, dRetO, dRetOE, dCount, dRev, iL, iT, iS, iR1, iR2, iEL, iET, iZ, dYes, s_tb, s_tn, s_ti, s_tl, s_tt, s_dd, s_do, s_ll, s_lt, s_ls, s_ul, s_ut, s_isStr_none, s_isStr_bool, s_isStr_int, s_isStr_str, s_isStr_list, s_isStr_tuple, s_isTup_none, s_isTup_bool, s_isTup_int, s_isTup_str, s_isTup_list, s_isTup_tuple, s_isLst_none, s_isLst_bool, s_isLst_int, s_isLst_str, s_isLst_list, s_isLst_tuple, s_isInt_none, s_isInt_bool, s_isInt_int, s_isInt_str, s_isInt_list, s_isInt_tuple, s_isBool_none, s_isBool_bool, s_isBool_int, s_isBool_str, s_isBool_list, s_isBool_tuple, s_isN_none, s_isN_bool, s_isN_int, s_isN_str, s_isN_list, s_isN_tuple, s_is, s_isnt, s_xl, s_xt, s_xs, s_cl, s_ct, s_cs, s_add, s_sub, s_lti, s_lei, s_gti, s_gei, s_min, s_max, s_neg, s_abs, s_os, at0, at1, at2, eqD_int, neD_int, List.getElem?_cons_zero, List.getElem?_cons_succ, List.set_cons_zero, List.set_cons_succ, List.map_cons, List.map_nil, Bool.false_eq_true, Bool.not_true, Bool.not_false, ite_true, ite_false, if_true, if_false, true_and, and_true]
        refine dif (fun e => ?_) (fun e => ?_)
        · refine ⟨le_dn rfl, market ?_⟩
          cases hm : mkForm (.tuple ds) with
          | false => rfl
          | true =>
            obtain ⟨g, ps, qs, e4, _⟩ := mk_split hm
            cases e4
            cases e
        obtain ⟨a, b, c, rfl⟩ := len_tup3 (of_decide_eq_true (nF e))
        rw [show cutG [a, b, c] (some 1) none = [b, c] from rfl]
        refine dLc_pure (fun d => !isLst d) id (le_dn rfl) (fun d Ky Kn hdm hy hn => ?_) ?_
        · try simp only [dIsNv, dRevO, dPar, dPar3, dTryB, bSeq, bIf, bCall, bNil, dAug, iR3, dMod0, xStar, dRepO, dExcA, dTryK, dIsx, lose, loseV, dSeq, dRet, dRetN, dIfS, dTst, dTru, dOp, dVar, dVarK, dC, dChain, dNot, dAnd, dOr, dAndE, dOrE, dNotE, dBoolE, dIf, dFn, dB, dTup, dLst, dO, xNil, xCons, dNext, dSet, dSetO, dRel, relE, dExpr, dCall, dCallO, dCons, dNil, dPurA, dAsg, gdName, gdNil, gdCons, gdTup, dForS, dCut, dCutO, dNoP, dPart, dCatO, dListO, dLc, wipeE, dApp, dIns, dSetIx, dRaise, dRetO, dRetOE, dCount, dRev, iL, iT, iS, iR1, iR2, iEL, iET, iZ, dYes, s_tb, s_tn, s_ti, s_tl, s_tt, s_dd, s_do, s_ll, s_lt, s_ls, s_ul, s_ut, s_isStr_none, s_isStr_bool, s_isStr_int, s_isStr_str, s_isStr_list, s_isStr_tuple, s_isTup_none, s_isTup_bool, s_isTup_int, s_isTup_str, s_isTup_list, s_isTup_tuple, s_isLst_none, s_isLst_bool, s_isLst_int, s_isLst_str, s_isLst_list, s_isLst_tuple, s_isInt_none, s_isInt_bool, s_isInt_int, s_isInt_str, s_isInt_list, s_isInt_tuple, s_isBool_none, s_isBool_bool, s_isBool_int, s_isBool_str, s_isBool_list, s_isBool_tuple, s_isN_none, s_isN_bool, s_isN_int, s_isN_str, s_isN_list, s_isN_tuple, s_is, s_isnt, s_xl, s_xt, s_xs, s_cl, s_ct, s_cs, s_add, s_sub, s_lti, s_lei, s_gti, s_gei, s_min, s_max, s_neg, s_abs, s_os, at0, at1, at2, eqD_int, neD_int, List.getElem?_cons_zero, List.getElem?_cons_succ, List.set_cons_zero, List.set_cons_succ, List.map_cons, List.map_nil, Bool.false_eq_true, Bool.not_true, Bool.not_false, ite_true, ite_false, if_true, if_false, true_and, and_true]
          exact dif hy hn
        rw [List.map_id]
        refine ⟨le_dn rfl, ?_⟩
        rw [ne_nl (fun d hdm => by
          have h1 := (List.mem_filter.mp hdm).1
          have := (depth_mem (List.mem_cons_of_mem a h1)).2
          omega), filter_nil]
        try simp only [dIsNv, dRevO, dPar, dPar3, dTryB, bSeq, bIf, bCall, bNil, dAug, iR3, dMod0, xStar, dRepO, dExcA, dTryK, dIsx, lose, loseV, dSeq, dRet, dRetN, dIfS, dTst, dTru, dOp, dVar, dVarK, dC, dChain, dNot, dAnd, dOr, dAndE, dOrE, dNotE, dBoolE, dIf, dFn, dB, dTup, dLst, dO, xNil, xCons, dNext, dSet, dSetO, dRel, relE, dExpr, dCall, dCallO, dCons, dNil, dPurA, dAsg, gdName, gdNil, gdCons, gdTup, dForS, dCut, dCutO, dNoP, dPart, dCatO, dListO, dLc, wipeE, dApp, dIns, dSetIx, dRaise, dRetO, dRetOE, dCount, dRev, iL, iT, iS, iR1, iR2, iEL, iET, iZ, dYes, s_tb, s_tn, s_ti, s_tl, s_tt, s_dd, s_do, s_ll, s_lt, s_ls, s_ul, s_ut, s_isStr_none, s_isStr_bool, s_isStr_int, s_isStr_str, s_isStr_list, s_isStr_tuple, s_isTup_none, s_isTup_bool, s_isTup_int, s_isTup_str, s_isTup_list, s_isTup_tuple, s_isLst_none, s_isLst_bool, s_isLst_int, s_isLst_str, s_isLst_list, s_isLst_tuple, s_isInt_none, s_isInt_bool, s_isInt_int, s_isInt_str, s_isInt_list, s_isInt_tuple, s_isBool_none, s_isBool_bool, s_isBool_int, s_isBool_str, s_isBool_list, s_isBool_tuple, s_isN_none, s_isN_bool, s_isN_int, s_isN_str, s_isN_list, s_isN_tuple, s_is, s_isnt, s_xl, s_xt, s_xs, s_cl, s_ct, s_cs, s_add, s_sub, s_lti, s_lei, s_gti, s_gei, s_min, s_max, s_neg, s_abs, s_os, at0, at1, at2, eqD_int, neD_int, List.getElem?_cons_zero, List.getElem?_cons_succ, List.set_cons_zero, List.set_cons_succ, List.map_cons, List.map_nil, Bool.false_eq_true, Bool.not_true, Bool.not_false, ite_true, ite_false, if_true, if_false, true_and, and_true]
        refine dif (fun e => ⟨le_dn rfl, market ?_⟩) (fun e => ?_)
        · cases hm : mkForm (.tuple [a, b, c]) with
          | false => rfl
          | true =>
            have h1 := mk_lst hm
            simp [h1.1, h1.2] at e
        have el : isLst b = true ∧ isLst c = true := by
          have := nF e
          simp at this
          exact this
        obtain ⟨ps, rfl⟩ : ∃ ps, b = .list ps := by
          cases b with
          | list ps => exact ⟨ps, rfl⟩
          | _ => exact absurd el.1 Bool.false_ne_true
        obtain ⟨qs, rfl⟩ : ∃ ps, c = .list ps := by
          cases c with
          | list ps => exact ⟨ps, rfl⟩
          | _ => exact absurd el.2 Bool.false_ne_true
        subst hg
        refine dSeq_hide fun g hg => ?_
        try simp only [dIsNv, dRevO, dPar, dPar3, dTryB, bSeq, bIf, bCall, bNil, dAug, iR3, dMod0, xStar, dRepO, dExcA, dTryK, dIsx, lose, loseV, dSeq, dRet, dRetN, dIfS, dTst, dTru, dOp, dVar, dVarK, dC, dChain, dNot, dAnd, dOr, dAndE, dOrE, dNotE, dBoolE, dIf, dFn, dB, dTup, dLst, dO, xNil, xCons, dNext, dSet, dSetO, dRel, relE, dExpr, dCall, dCallO, dCons, dNil, dPurA, dAsg, gdName, gdNil, gdCons, gdTup, dForS, dCut, dCutO, dNoP, dPart, dCatO, dListO, dLc, wipeE, dApp, dIns, dSetIx, dRaise, dRetO, dRetOE, dCount, dRev, iL, iT, iS, iR1, iR2, iEL, iET, iZ, dYes, s_tb, s_tn, s_ti, s_tl, s_tt, s_dd, s_do, s_ll, s_lt, s_ls, s_ul, s_ut, s_isStr_none, s_isStr_bool, s_isStr_int, s_isStr_str, s_isStr_list, s_isStr_tuple, s_isTup_none, s_isTup_bool, s_isTup_int, s_isTup_str, s_isTup_list, s_isTup_tuple, s_isLst_none, s_isLst_bool, s_isLst_int, s_isLst_str, s_isLst_list, s_isLst_tuple, s_isInt_none, s_isInt_bool, s_isInt_int, s_isInt_str, s_isInt_list, s_isInt_tuple, s_isBool_none, s_isBool_bool, s_isBool_int, s_isBool_str, s_isBool_list, s_isBool_tuple, s_isN_none, s_isN_bool, s_isN_int, s_isN_str, s_isN_list, s_isN_tuple, s_is, s_isnt, s_xl, s_xt, s_xs, s_cl, s_ct, s_cs, s_add, s_sub, s_lti, s_lei, s_gti, s_gei, s_min, s_max, s_neg, s_abs, s_os, at0, at1, at2, eqD_int, neD_int, List.getElem?_cons_zero, List.getElem?_cons_succ, List.set_cons_zero, List.set_cons_succ, List.map_cons, List.map_nil, Bool.false_eq_true, Bool.not_true, Bool.not_false, ite_true, ite_false, if_true, if_false, true_and, and_true]
        have nolen : ¬ (ps.length : Int) = qs.length → Qh (.d (.tuple [.str "market"])) T := fun e => market (by rw [mkF_l, decide_eq_false (by omega)]; rfl)
        refine dif (fun e => ⟨le_dn rfl, nolen (of_decide_eq_false (nT e))⟩) (fun e => ?_)
        have e1 : (ps.length : Int) = qs.length := of_decide_eq_true (nF e)
        refine dif (fun ea => ?_) (fun ea => ⟨le_dn rfl, market (by rw [mkF_l, ea]; simp)⟩)
        refine dif (fun e => ⟨le_dn rfl, market (by rw [mkF_l, nT e]; simp)⟩) (fun eb => ?_)
        have hf : mkForm (.tuple [a, .list ps, .list qs]) = true := by rw [mkF_l, ea, nF eb, decide_eq_true (by omega)]; rfl
        have l24 := of_decide_eq_true (nF eb)
        have goods : goodsD a = false → Qh (.d (.tuple [.str "goods"])) T := fun e => by
          rw [mw_goods hf e] at h
          exact h
        subst hg
        refine dSeq_hide fun g hg => ?_
        try simp only [dIsNv, dRevO, dPar, dPar3, dTryB, bSeq, bIf, bCall, bNil, dAug, iR3, dMod0, xStar, dRepO, dExcA, dTryK, dIsx, lose, loseV, dSeq, dRet, dRetN, dIfS, dTst, dTru, dOp, dVar, dVarK, dC, dChain, dNot, dAnd, dOr, dAndE, dOrE, dNotE, dBoolE, dIf, dFn, dB, dTup, dLst, dO, xNil, xCons, dNext, dSet, dSetO, dRel, relE, dExpr, dCall, dCallO, dCons, dNil, dPurA, dAsg, gdName, gdNil, gdCons, gdTup, dForS, dCut, dCutO, dNoP, dPart, dCatO, dListO, dLc, wipeE, dApp, dIns, dSetIx, dRaise, dRetO, dRetOE, dCount, dRev, iL, iT, iS, iR1, iR2, iEL, iET, iZ, dYes, s_tb, s_tn, s_ti, s_tl, s_tt, s_dd, s_do, s_ll, s_lt, s_ls, s_ul, s_ut, s_isStr_none, s_isStr_bool, s_isStr_int, s_isStr_str, s_isStr_list, s_isStr_tuple, s_isTup_none, s_isTup_bool, s_isTup_int, s_isTup_str, s_isTup_list, s_isTup_tuple, s_isLst_none, s_isLst_bool, s_isLst_int, s_isLst_str, s_isLst_list, s_isLst_tuple, s_isInt_none, s_isInt_bool, s_isInt_int, s_isInt_str, s_isInt_list, s_isInt_tuple, s_isBool_none, s_isBool_bool, s_isBool_int, s_isBool_str, s_isBool_list, s_isBool_tuple, s_isN_none, s_isN_bool, s_isN_int, s_isN_str, s_isN_list, s_isN_tuple, s_is, s_isnt, s_xl, s_xt, s_xs, s_cl, s_ct, s_cs, s_add, s_sub, s_lti, s_lei, s_gti, s_gei, s_min, s_max, s_neg, s_abs, s_os, at0, at1, at2, eqD_int, neD_int, List.getElem?_cons_zero, List.getElem?_cons_succ, List.set_cons_zero, List.set_cons_succ, List.map_cons, List.map_nil, Bool.false_eq_true, Bool.not_true, Bool.not_false, ite_true, ite_false, if_true, if_false, true_and, and_true]
        subst hg
        refine dSeq_hide fun g hg => ?_
        cases a with
        | tuple gs =>
          try simp only [dIsNv, dRevO, dPar, dPar3, dTryB, bSeq, bIf, bCall, bNil, dAug, iR3, dMod0, xStar, dRepO, dExcA, dTryK, dIsx, lose, loseV, dSeq, dRet, dRetN, dIfS, dTst, dTru, dOp, dVar, dVarK, dC, dChain, dNot, dAnd, dOr, dAndE, dOrE, dNotE, dBoolE, dIf, dFn, dB, dTup, dLst, dO, xNil, xCons, dNext, dSet, dSetO, dRel, relE, dExpr, dCall, dCallO, dCons, dNil, dPurA, dAsg, gdName, gdNil, gdCons, gdTup, dForS, dCut, dCutO, dNoP, dPart, dCatO, dListO, dLc, wipeE, dApp, dIns, dSetIx, dRaise, dRetO, dRetOE, dCount, dRev, iL, iT, iS, iR1, iR2, iEL, iET, iZ, dYes, s_tb, s_tn, s_ti, s_tl, s_tt, s_dd, s_do, s_ll, s_lt, s_ls, s_ul, s_ut, s_isStr_none, s_isStr_bool, s_isStr_int, s_isStr_str, s_isStr_list, s_isStr_tuple, s_isTup_none, s_isTup_bool, s_isTup_int, s_isTup_str, s_isTup_list, s_isTup_tuple, s_isLst_none, s_isLst_bool, s_isLst_int, s_isLst_str, s_isLst_list, s_isLst_tuple, s_isInt_none, s_isInt_bool, s_isInt_int, s_isInt_str, s_isInt_list, s_isInt_tuple, s_isBool_none, s_isBool_bool, s_isBool_int, s_isBool_str, s_isBool_list, s_isBool_tuple, s_isN_none, s_isN_bool, s_isN_int, s_isN_str, s_isN_list, s_isN_tuple, s_is, s_isnt, s_xl, s_xt, s_xs, s_cl, s_ct, s_cs, s_add, s_sub, s_lti, s_lei, s_gti, s_gei, s_min, s_max, s_neg, s_abs, s_os, at0, at1, at2, eqD_int, neD_int, List.getElem?_cons_zero, List.getElem?_cons_succ, List.set_cons_zero, List.set_cons_succ, List.map_cons, List.map_nil, Bool.false_eq_true, Bool.not_true, Bool.not_false, ite_true, ite_false, if_true, if_false, true_and, and_true]
          refine dif (fun ea => ?_) (fun ea => ⟨le_dn rfl, goods (by rw [goodsD_l, ea]; rfl)⟩)
          refine dif (fun e => ⟨le_dn rfl, goods (by rw [goodsD_l, nT e]; simp)⟩) (fun eb => ?_)
          have g8 := of_decide_eq_true (nF eb)
          have g1 := of_decide_eq_true ea
          have hdg : ∀ d ∈ gs, d.depth ≤ 58 := fun d hd2 => by
            have h1 := (depth_mem hd2).2
            have h2 := (depth_mem (ds := [.tuple gs, .list ps, .list qs]) (List.mem_cons_self)).2
            omega
          have hdr : ∀ {r : PyData} {L : List PyData}, .list L ∈ [PyData.tuple gs, .list ps, .list qs] → r ∈ L → r.depth ≤ 60 := fun {r L} hL hr => by
            have h1 := (depth_mem hr).1
            have h2 := (depth_mem hL).2
            omega
          subst hg
          refine dSeq_hide fun g hg => ?_
          try simp only [dIsNv, dRevO, dPar, dPar3, dTryB, bSeq, bIf, bCall, bNil, dAug, iR3, dMod0, xStar, dRepO, dExcA, dTryK, dIsx, lose, loseV, dSeq, dRet, dRetN, dIfS, dTst, dTru, dOp, dVar, dVarK, dC, dChain, dNot, dAnd, dOr, dAndE, dOrE, dNotE, dBoolE, dIf, dFn, dB, dTup, dLst, dO, xNil, xCons, dNext, dSet, dSetO, dRel, relE, dExpr, dCall, dCallO, dCons, dNil, dPurA, dAsg, gdName, gdNil, gdCons, gdTup, dForS, dCut, dCutO, dNoP, dPart, dCatO, dListO, dLc, wipeE, dApp, dIns, dSetIx, dRaise, dRetO, dRetOE, dCount, dRev, iL, iT, iS, iR1, iR2, iEL, iET, iZ, dYes, s_tb, s_tn, s_ti, s_tl, s_tt, s_dd, s_do, s_ll, s_lt, s_ls, s_ul, s_ut, s_isStr_none, s_isStr_bool, s_isStr_int, s_isStr_str, s_isStr_list, s_isStr_tuple, s_isTup_none, s_isTup_bool, s_isTup_int, s_isTup_str, s_isTup_list, s_isTup_tuple, s_isLst_none, s_isLst_bool, s_isLst_int, s_isLst_str, s_isLst_list, s_isLst_tuple, s_isInt_none, s_isInt_bool, s_isInt_int, s_isInt_str, s_isInt_list, s_isInt_tuple, s_isBool_none, s_isBool_bool, s_isBool_int, s_isBool_str, s_isBool_list, s_isBool_tuple, s_isN_none, s_isN_bool, s_isN_int, s_isN_str, s_isN_list, s_isN_tuple, s_is, s_isnt, s_xl, s_xt, s_xs, s_cl, s_ct, s_cs, s_add, s_sub, s_lti, s_lei, s_gti, s_gei, s_min, s_max, s_neg, s_abs, s_os, at0, at1, at2, eqD_int, neD_int, List.getElem?_cons_zero, List.getElem?_cons_succ, List.set_cons_zero, List.set_cons_succ, List.map_cons, List.map_nil, Bool.false_eq_true, Bool.not_true, Bool.not_false, ite_true, ite_false, if_true, if_false, true_and, and_true]
          refine dLc_pure (fun d => !(isWordD 8 d && decide (((gs.countP fun e => PyData.eqv e d : Nat) : Int) = 1))) id (by omega) (fun d Ky Kn hdm hy hn => ?_) ?_
          · try simp only [dIsNv, dRevO, dPar, dPar3, dTryB, bSeq, bIf, bCall, bNil, dAug, iR3, dMod0, xStar, dRepO, dExcA, dTryK, dIsx, lose, loseV, dSeq, dRet, dRetN, dIfS, dTst, dTru, dOp, dVar, dVarK, dC, dChain, dNot, dAnd, dOr, dAndE, dOrE, dNotE, dBoolE, dIf, dFn, dB, dTup, dLst, dO, xNil, xCons, dNext, dSet, dSetO, dRel, relE, dExpr, dCall, dCallO, dCons, dNil, dPurA, dAsg, gdName, gdNil, gdCons, gdTup, dForS, dCut, dCutO, dNoP, dPart, dCatO, dListO, dLc, wipeE, dApp, dIns, dSetIx, dRaise, dRetO, dRetOE, dCount, dRev, iL, iT, iS, iR1, iR2, iEL, iET, iZ, dYes, s_tb, s_tn, s_ti, s_tl, s_tt, s_dd, s_do, s_ll, s_lt, s_ls, s_ul, s_ut, s_isStr_none, s_isStr_bool, s_isStr_int, s_isStr_str, s_isStr_list, s_isStr_tuple, s_isTup_none, s_isTup_bool, s_isTup_int, s_isTup_str, s_isTup_list, s_isTup_tuple, s_isLst_none, s_isLst_bool, s_isLst_int, s_isLst_str, s_isLst_list, s_isLst_tuple, s_isInt_none, s_isInt_bool, s_isInt_int, s_isInt_str, s_isInt_list, s_isInt_tuple, s_isBool_none, s_isBool_bool, s_isBool_int, s_isBool_str, s_isBool_list, s_isBool_tuple, s_isN_none, s_isN_bool, s_isN_int, s_isN_str, s_isN_list, s_isN_tuple, s_is, s_isnt, s_xl, s_xt, s_xs, s_cl, s_ct, s_cs, s_add, s_sub, s_lti, s_lei, s_gti, s_gei, s_min, s_max, s_neg, s_abs, s_os, at0, at1, at2, eqD_int, neD_int, List.getElem?_cons_zero, List.getElem?_cons_succ, List.set_cons_zero, List.set_cons_succ, List.map_cons, List.map_nil, Bool.false_eq_true, Bool.not_true, Bool.not_false, ite_true, ite_false, if_true, if_false, true_and, and_true]
            refine dif (fun e => hy (by rw [show isWordD 8 d = false from nT e]; rfl)) (fun e => ⟨by have := hdg d hdm; omega, ?_⟩)
            rw [show isWordD 8 d = true from nF e, Bool.true_and] at hy hn
            exact dif hy hn
          rw [List.map_id]
          refine ⟨le_dn rfl, ?_⟩
          rw [ne_nl (fun d hdm => by have := hdg d (List.mem_filter.mp hdm).1; omega), filter_nil, name_count]
          try simp only [dIsNv, dRevO, dPar, dPar3, dTryB, bSeq, bIf, bCall, bNil, dAug, iR3, dMod0, xStar, dRepO, dExcA, dTryK, dIsx, lose, loseV, dSeq, dRet, dRetN, dIfS, dTst, dTru, dOp, dVar, dVarK, dC, dChain, dNot, dAnd, dOr, dAndE, dOrE, dNotE, dBoolE, dIf, dFn, dB, dTup, dLst, dO, xNil, xCons, dNext, dSet, dSetO, dRel, relE, dExpr, dCall, dCallO, dCons, dNil, dPurA, dAsg, gdName, gdNil, gdCons, gdTup, dForS, dCut, dCutO, dNoP, dPart, dCatO, dListO, dLc, wipeE, dApp, dIns, dSetIx, dRaise, dRetO, dRetOE, dCount, dRev, iL, iT, iS, iR1, iR2, iEL, iET, iZ, dYes, s_tb, s_tn, s_ti, s_tl, s_tt, s_dd, s_do, s_ll, s_lt, s_ls, s_ul, s_ut, s_isStr_none, s_isStr_bool, s_isStr_int, s_isStr_str, s_isStr_list, s_isStr_tuple, s_isTup_none, s_isTup_bool, s_isTup_int, s_isTup_str, s_isTup_list, s_isTup_tuple, s_isLst_none, s_isLst_bool, s_isLst_int, s_isLst_str, s_isLst_list, s_isLst_tuple, s_isInt_none, s_isInt_bool, s_isInt_int, s_isInt_str, s_isInt_list, s_isInt_tuple, s_isBool_none, s_isBool_bool, s_isBool_int, s_isBool_str, s_isBool_list, s_isBool_tuple, s_isN_none, s_isN_bool, s_isN_int, s_isN_str, s_isN_list, s_isN_tuple, s_is, s_isnt, s_xl, s_xt, s_xs, s_cl, s_ct, s_cs, s_add, s_sub, s_lti, s_lei, s_gti, s_gei, s_min, s_max, s_neg, s_abs, s_os, at0, at1, at2, eqD_int, neD_int, List.getElem?_cons_zero, List.getElem?_cons_succ, List.set_cons_zero, List.set_cons_succ, List.map_cons, List.map_nil, Bool.false_eq_true, Bool.not_true, Bool.not_false, ite_true, ite_false, if_true, if_false, true_and, and_true]
          refine dif (fun e => ⟨le_dn rfl, goods (by rw [goodsD_l, nT e]; simp)⟩) (fun e => ?_)
          have hG : goodsD (.tuple gs) = true := by rw [goodsD_l, ea, nF eb, nF e]; rfl
          rw [mw_rest hf hG, show glen (.tuple gs) = (gs.length : Int) from rfl] at h
          unfold wrongR wrongQ at h
          subst hg
          try simp only [dIsNv, dRevO, dPar, dPar3, dTryB, bSeq, bIf, bCall, bNil, dAug, iR3, dMod0, xStar, dRepO, dExcA, dTryK, dIsx, lose, loseV, dSeq, dRet, dRetN, dIfS, dTst, dTru, dOp, dVar, dVarK, dC, dChain, dNot, dAnd, dOr, dAndE, dOrE, dNotE, dBoolE, dIf, dFn, dB, dTup, dLst, dO, xNil, xCons, dNext, dSet, dSetO, dRel, relE, dExpr, dCall, dCallO, dCons, dNil, dPurA, dAsg, gdName, gdNil, gdCons, gdTup, dForS, dCut, dCutO, dNoP, dPart, dCatO, dListO, dLc, wipeE, dApp, dIns, dSetIx, dRaise, dRetO, dRetOE, dCount, dRev, iL, iT, iS, iR1, iR2, iEL, iET, iZ, dYes, s_tb, s_tn, s_ti, s_tl, s_tt, s_dd, s_do, s_ll, s_lt, s_ls, s_ul, s_ut, s_isStr_none, s_isStr_bool, s_isStr_int, s_isStr_str, s_isStr_list, s_isStr_tuple, s_isTup_none, s_isTup_bool, s_isTup_int, s_isTup_str, s_isTup_list, s_isTup_tuple, s_isLst_none, s_isLst_bool, s_isLst_int, s_isLst_str, s_isLst_list, s_isLst_tuple, s_isInt_none, s_isInt_bool, s_isInt_int, s_isInt_str, s_isInt_list, s_isInt_tuple, s_isBool_none, s_isBool_bool, s_isBool_int, s_isBool_str, s_isBool_list, s_isBool_tuple, s_isN_none, s_isN_bool, s_isN_int, s_isN_str, s_isN_list, s_isN_tuple, s_is, s_isnt, s_xl, s_xt, s_xs, s_cl, s_ct, s_cs, s_add, s_sub, s_lti, s_lei, s_gti, s_gei, s_min, s_max, s_neg, s_abs, s_os, at0, at1, at2, eqD_int, neD_int, List.getElem?_cons_zero, List.getElem?_cons_succ, List.set_cons_zero, List.set_cons_succ, List.map_cons, List.map_nil, Bool.false_eq_true, Bool.not_true, Bool.not_false, ite_true, ite_false, if_true, if_false, true_and, and_true]
          refine ⟨le_dn rfl, le_dn rfl, le_dn rfl, ?_⟩
          simp only [dFor]
          try simp only [dIsNv, dRevO, dPar, dPar3, dTryB, bSeq, bIf, bCall, bNil, dAug, iR3, dMod0, xStar, dRepO, dExcA, dTryK, dIsx, lose, loseV, dSeq, dRet, dRetN, dIfS, dTst, dTru, dOp, dVar, dVarK, dC, dChain, dNot, dAnd, dOr, dAndE, dOrE, dNotE, dBoolE, dIf, dFn, dB, dTup, dLst, dO, xNil, xCons, dNext, dSet, dSetO, dRel, relE, dExpr, dCall, dCallO, dCons, dNil, dPurA, dAsg, gdName, gdNil, gdCons, gdTup, dForS, dCut, dCutO, dNoP, dPart, dCatO, dListO, dLc, wipeE, dApp, dIns, dSetIx, dRaise, dRetO, dRetOE, dCount, dRev, iL, iT, iS, iR1, iR2, iEL, iET, iZ, dYes, s_tb, s_tn, s_ti, s_tl, s_tt, s_dd, s_do, s_ll, s_lt, s_ls, s_ul, s_ut, s_isStr_none, s_isStr_bool, s_isStr_int, s_isStr_str, s_isStr_list, s_isStr_tuple, s_isTup_none, s_isTup_bool, s_isTup_int, s_isTup_str, s_isTup_list, s_isTup_tuple, s_isLst_none, s_isLst_bool, s_isLst_int, s_isLst_str, s_isLst_list, s_isLst_tuple, s_isInt_none, s_isInt_bool, s_isInt_int, s_isInt_str, s_isInt_list, s_isInt_tuple, s_isBool_none, s_isBool_bool, s_isBool_int, s_isBool_str, s_isBool_list, s_isBool_tuple, s_isN_none, s_isN_bool, s_isN_int, s_isN_str, s_isN_list, s_isN_tuple, s_is, s_isnt, s_xl, s_xt, s_xs, s_cl, s_ct, s_cs, s_add, s_sub, s_lti, s_lei, s_gti, s_gei, s_min, s_max, s_neg, s_abs, s_os, at0, at1, at2, eqD_int, neD_int, List.getElem?_cons_zero, List.getElem?_cons_succ, List.set_cons_zero, List.set_cons_succ, List.map_cons, List.map_nil, Bool.false_eq_true, Bool.not_true, Bool.not_false, ite_true, ite_false, if_true, if_false, true_and, and_true]
          refine ⟨rfl, ps, rfl, .inr rfl, by omega, by omega, fun r hr2 => hdr (by simp) hr2, ?_⟩
          rw [show lineL 1 (gs.length : Int) = lineD 1 gs.length from funext fun _ => lineL_1]
          cases e5 : firstF (lineD 1 (gs.length : Int)) 0 ps with
          | some k =>
            rw [e5] at h
            exact ⟨le_dn rfl, h⟩
          | none =>
            rw [e5] at h
            refine ⟨rfl, qs, rfl, .inl rfl, by omega, by omega, fun r hr2 => hdr (by simp) hr2, ?_⟩
            rw [show lineL 0 (gs.length : Int) = amtD gs.length from funext fun _ => lineL_0]
            cases e6 : firstF (amtD (gs.length : Int)) 0 qs with
            | some k =>
              rw [e6] at h
              exact ⟨le_dn rfl, h⟩
            | none =>
              rw [e6] at h
              exact h
        | _ =>
          try simp only [dIsNv, dRevO, dPar, dPar3, dTryB, bSeq, bIf, bCall, bNil, dAug, iR3, dMod0, xStar, dRepO, dExcA, dTryK, dIsx, lose, loseV, dSeq, dRet, dRetN, dIfS, dTst, dTru, dOp, dVar, dVarK, dC, dChain, dNot, dAnd, dOr, dAndE, dOrE, dNotE, dBoolE, dIf, dFn, dB, dTup, dLst, dO, xNil, xCons, dNext, dSet, dSetO, dRel, relE, dExpr, dCall, dCallO, dCons, dNil, dPurA, dAsg, gdName, gdNil, gdCons, gdTup, dForS, dCut, dCutO, dNoP, dPart, dCatO, dListO, dLc, wipeE, dApp, dIns, dSetIx, dRaise, dRetO, dRetOE, dCount, dRev, iL, iT, iS, iR1, iR2, iEL, iET, iZ, dYes, s_tb, s_tn, s_ti, s_tl, s_tt, s_dd, s_do, s_ll, s_lt, s_ls, s_ul, s_ut, s_isStr_none, s_isStr_bool, s_isStr_int, s_isStr_str, s_isStr_list, s_isStr_tuple, s_isTup_none, s_isTup_bool, s_isTup_int, s_isTup_str, s_isTup_list, s_isTup_tuple, s_isLst_none, s_isLst_bool, s_isLst_int, s_isLst_str, s_isLst_list, s_isLst_tuple, s_isInt_none, s_isInt_bool, s_isInt_int, s_isInt_str, s_isInt_list, s_isInt_tuple, s_isBool_none, s_isBool_bool, s_isBool_int, s_isBool_str, s_isBool_list, s_isBool_tuple, s_isN_none, s_isN_bool, s_isN_int, s_isN_str, s_isN_list, s_isN_tuple, s_is, s_isnt, s_xl, s_xt, s_xs, s_cl, s_ct, s_cs, s_add, s_sub, s_lti, s_lei, s_gti, s_gei, s_min, s_max, s_neg, s_abs, s_os, at0, at1, at2, eqD_int, neD_int, List.getElem?_cons_zero, List.getElem?_cons_succ, List.set_cons_zero, List.set_cons_succ, List.map_cons, List.map_nil, Bool.false_eq_true, Bool.not_true, Bool.not_false, ite_true, ite_false, if_true, if_false, true_and, and_true]
          exact ⟨le_dn rfl, goods rfl⟩
      | _ =>
        refine dSeq_hide fun g hg => ?_
        try simp only [dIsNv, dRevO, dPar, dPar3, dTryB, bSeq, bIf, bCall, bNil, dAug, iR3, dMod0, xStar, dRepO, dExcA, dTryK, dIsx, lose, loseV, dSeq, dRet, dRetN, dIfS, dTst, dTru, dOp, dVar, dVarK, dC, dChain, dNot, dAnd, dOr, dAndE, dOrE, dNotE, dBoolE, dIf, dFn, dB, dTup, dLst, dO, xNil, xCons, dNext, dSet, dSetO, dRel, relE, dExpr, dCall, dCallO, dCons, dNil, dPurA, dAsg, gdName, gdNil, gdCons, gdTup, dForS, dCut, dCutO, dNoP, dPart, dCatO, dListO, dLc, wipeE, dApp, dIns, dSetIx, dRaise, dRetO, dRetOE, dCount, dRev, iL, iT, iS, iR1, iR2, iEL, iET, iZ, dYes, s_tb, s_tn, s_ti, s_tl, s_tt, s_dd, s_do, s_ll, s_lt, s_ls, s_ul, s_ut, s_isStr_none, s_isStr_bool, s_isStr_int, s_isStr_str, s_isStr_list, s_isStr_tuple, s_isTup_none, s_isTup_bool, s_isTup_int, s_isTup_str, s_isTup_list, s_isTup_tuple, s_isLst_none, s_isLst_bool, s_isLst_int, s_isLst_str, s_isLst_list, s_isLst_tuple, s_isInt_none, s_isInt_bool, s_isInt_int, s_isInt_str, s_isInt_list, s_isInt_tuple, s_isBool_none, s_isBool_bool, s_isBool_int, s_isBool_str, s_isBool_list, s_isBool_tuple, s_isN_none, s_isN_bool, s_isN_int, s_isN_str, s_isN_list, s_isN_tuple, s_is, s_isnt, s_xl, s_xt, s_xs, s_cl, s_ct, s_cs, s_add, s_sub, s_lti, s_lei, s_gti, s_gei, s_min, s_max, s_neg, s_abs, s_os, at0, at1, at2, eqD_int, neD_int, List.getElem?_cons_zero, List.getElem?_cons_succ, List.set_cons_zero, List.set_cons_succ, List.map_cons, List.map_nil, Bool.false_eq_true, Bool.not_true, Bool.not_false, ite_true, ite_false, if_true, if_false, true_and, and_true]
        exact ⟨le_dn rfl, market rfl⟩
    · exact h.elim

end
end Dv
set_option Elab.async false
set_option linter.all false
set_option maxRecDepth 100000
set_option maxHeartbeats 1000000
namespace Dv
open PySem PySem.Spec PyProof.Rows L2
def names8 : List PyData := [.str "a", .str "milk", .str "eighteen", .str "b", .str "ab", .str "zz", .str "corn", .str "oil"]
def goodsOf (s c : Nat) : List PyData := cutG (cutG names8 (some (s : Int)) none ++ cutG names8 none (some (s : Int))) none (some (1 + (c : Int)))
theorem goods_ok : ∀ s ∈ List.range 8, ∀ c ∈ List.range 8, (decide ((goodsOf s c).length = c + 1) && nameD (goodsOf s c)) = true := by decide +kernel
theorem app_map {α β : Type} (f : α → β) (xs : List α) (x : α) : xs.map f ++ [f x] = (xs ++ [x]).map f := by rw [List.map_append]; rfl
theorem ints_ex {lo hi : Int} : ∀ {ys : List PyData}, (∀ y ∈ ys, ∃ n : Int, y = .int n ∧ lo ≤ n ∧ n ≤ hi) → ∃ ns : List Int, ys = ns.map PyData.int ∧ ∀ n ∈ ns, lo ≤ n ∧ n ≤ hi
  | [], _ => ⟨[], rfl, fun n hn => by simp at hn⟩
  | y :: r, h => by
    obtain ⟨ns, e, hn⟩ := ints_ex fun x hx => h x (List.mem_cons_of_mem _ hx)
    obtain ⟨n, rfl, h1⟩ := h y List.mem_cons_self
    exact ⟨n :: ns, by rw [List.map_cons, e], fun m hm => by
      rcases List.mem_cons.mp hm with rfl | hm
      · exact h1
      · exact hn m hm⟩
theorem set_ints (ns : List Int) (j : Nat) (v : Int) : (ns.map PyData.int).set j (.int v) = (ns.set j v).map PyData.int := by rw [List.map_set]
theorem mem_set_int {ns : List Int} {j : Nat} {v n : Int} (h : n ∈ ns.set j v) : n = v ∨ n ∈ ns := by
  rcases List.mem_or_eq_of_mem_set h with h | h
  · exact .inr h
  · exact .inl h
def RowP (n : Nat) (p : List Int) : Prop := p.length = n ∧ ∀ v ∈ p, 1 ≤ v ∧ v ≤ 1000000
def RowA (n : Nat) (p : List Int) : Prop := p.length = n ∧ (∀ v ∈ p, 0 ≤ v ∧ v ≤ 1000000) ∧ ∃ v ∈ p, 0 < v

abbrev s_Lmarketby : Stmt := topS 39
abbrev n_Lmarketby : List Str := ["_law_purse", "_law_most", "_law_names", "_law_start", "_law_goods_here", "_law_far", "_law_prices_here", "_law_amounts_here", "_law_k", "_law_name", "_law_some"]
theorem sc_Lmarketby : FnScope n_Lmarketby ["_law_purse", "_law_most"] (defScope s_Lmarketby) := ⟨rfl, rfl, rfl, by decide +kernel, rfl, by decide +kernel, by decide +kernel⟩
def G__law_market_by : DSp := fun as T Q _ => match as with
  | [.pur, .d (.int n8)] => 1 ≤ n8 ∧ n8 ≤ 24 ∧ T ≤ 999000000 ∧ ∀ gs P A T', GoodM gs P A → (P.length : Int) ≤ n8 → T' ≤ T + 1000 → Q (.d (mkD gs P A)) T'
  | _ => False
section
variable {P : Program} {w : World} {K : PySem.W.Frag} {mg : Str → Option Value} {base : Heap}
theorem ok_Lmarketby {f : Addr} {fd : FuncData} {k : Nat} {tb : List Addr} (F : Fun K "_law_market_by" "_law_market_by" s_Lmarketby f fd) (A__law_draw : AtD P w K mg base k tb "_law_draw" ["_law_purse", "_law_out_of"] (G__law_draw)) (m_len : mg "len" = none) (m_list : mg "list" = none) (m_range : mg "range" = none) (m_sum : mg "sum" = none) (m_tuple : mg "tuple" = none) : FnOk P w K mg base (L2.CX P w) (k + 1) f fd ["_law_purse", "_law_most"] (spF K tb (G__law_market_by)) := by
  refine fnd F sc_Lmarketby (fun as T Q E h => ?_) (fun cdv A outer s H E hr => ⟨_, (pssd_cons (psd_set (i := 2) sc_Lmarketby.nd rfl (.inl rfl) (PDo.d (pdo_lst (pxd_cons pd_str (pxd_cons pd_str (pxd_cons pd_str (pxd_cons pd_str (pxd_cons pd_str (pxd_cons pd_str (pxd_cons pd_str (pxd_cons pd_str pxd_nil)))))))))))
      (pssd_cons (psd_set (i := 3) sc_Lmarketby.nd rfl (.inl rfl) (pd_call A__law_draw hr (by rfl) (pad_pur (pv 0) (pad_cons pd_int pad_nil))))
      (pssd_cons (psd_set (i := 4) sc_Lmarketby.nd rfl (.inl rfl) (pd_cut (PD.k (pd_op opd_add (PD.k (pd_cut (pk_var (pv 2)) (pod_some (pd_var (pv 3))) pod_none)) (PD.k (pd_cut (pk_var (pv 2)) pod_none (pod_some (pd_var (pv 3))))))) pod_none (pod_some (pd_op opd_add (PD.k pd_int) (PD.k (pd_call A__law_draw hr (by rfl) (pad_pur (pv 0) (pad_cons pd_int pad_nil))))))))
      (pssd_cons (psd_set (i := 5) sc_Lmarketby.nd rfl (.inr rfl) (pd_ix (PD.k (PDo.d (pdo_lst (pxd_cons pd_int (pxd_cons pd_int (pxd_cons (pd_op opd_pow (PD.k pd_int) (PD.k pd_int)) pxd_nil)))))) (PD.k (pd_call A__law_draw hr (by rfl) (pad_pur (pv 0) (pad_cons pd_int pad_nil)))) (fun _ _ => rfl)))
      (pssd_cons (psd_setO (i := 6) sc_Lmarketby.nd rfl (.inl rfl) (pdo_lst pxd_nil))
      (pssd_cons (psd_setO (i := 7) sc_Lmarketby.nd rfl (.inl rfl) (pdo_lst pxd_nil))
      (pssd_cons (psd_for PassesOwn.never rfl (pid_range1 (by rfl) m_range (pd_op opd_add (PD.k pd_int) (PD.k (pd_call A__law_draw hr (by rfl) (pad_pur (pv 0) (pad_cons (pd_var (pv 1)) pad_nil)))))) (PGd.y (pgd_name (i := 8) sc_Lmarketby.nd rfl (.inl rfl))) (pssd_cons (psd_if (PWd.pt (pwd_and (ptd_cmp opd_gt (pk_var (pv 8)) (PD.k pd_int) (nomark _)) (pwd_and1 (ptd_cmp (opd_eq hr.units) (PD.k (pd_call A__law_draw hr (by rfl) (pad_pur (pv 0) (pad_cons pd_int pad_nil)))) (PD.k pd_int) (nomark _))))) (pssd_one (psd_app (pe_bm PySem.F.plainAttrs_list PySem.F.slot_list_append PySem.F.type_list_append mt_append (pv 6) (pa_cons (PDo.d (pdo_list (by rfl) m_list (by decide +kernel) (PD.k (pd_ix (pk_var (pv 6)) (PD.k (pd_neg (PD.k pd_int))) (fun _ _ => rfl))))) pa_nil)))) (pssd_one (psd_app (pe_bm PySem.F.plainAttrs_list PySem.F.slot_list_append PySem.F.type_list_append mt_append (pv 6) (pa_cons (PDo.d (pdo_lc (own := [("_law_name", 9)]) (γ := (gdName 9)) (tt := dYes) (te := (dOp addD (dC (.int 1)) (dCall (fun _ => False) G__law_draw (dPurA 0 (dCons (dVar 5) dNil))))) (f := (iL (dVar 4))) rfl sc_Lmarketby.nd (pid_list (pd_var (pv 4))) (blkOk_by (own := [("_law_name", 9)]) (N := n_Lmarketby) (sc := defScope s_Lmarketby) (by decide +kernel)) (fun _ _ _ _ _ => (PGd.y (pgd_name (i := 9) sc_Lmarketby.nd rfl (.inl rfl)))) (fun _ _ _ _ _ => ptsd_nil) (fun _ _ _ _ _ => (pd_op opd_add (PD.k pd_int) (PD.k (pd_call A__law_draw hr (by rfl) (pad_pur (pv 0) (pad_cons (pd_var (pv 5)) pad_nil)))))))) pa_nil)))))
      (pssd_cons (psd_setLc (i := 10) (own := [("_law_name", 9)]) (γ := (gdName 9)) (tt := dYes) (te := (dOp mulD (dCall (fun _ => False) G__law_draw (dPurA 0 (dCons (dVar 5) dNil))) (dCall (fun _ => False) G__law_draw (dPurA 0 (dCons (dC (.int 2)) dNil))))) (f := (iL (dVar 4))) rfl sc_Lmarketby.nd rfl rfl (sw_true rfl rfl rfl (by decide +kernel)) (pid_list (pd_var (pv 4))) (blkOk_by (own := [("_law_name", 9)]) (N := n_Lmarketby) (sc := defScope s_Lmarketby) (by decide +kernel)) (fun _ _ _ _ _ => (PGd.y (pgd_name (i := 9) sc_Lmarketby.nd rfl (.inl rfl)))) (fun _ _ _ _ _ => ptsd_nil) (fun _ _ _ _ _ => (pd_op opd_mul (PD.k (pd_call A__law_draw hr (by rfl) (pad_pur (pv 0) (pad_cons (pd_var (pv 5)) pad_nil)))) (PD.k (pd_call A__law_draw hr (by rfl) (pad_pur (pv 0) (pad_cons pd_int pad_nil)))))))
      (pssd_cons (psd_if (ptd_cmp (opd_eq hr.units) (PD.k (pd_b1 (cad_sum rfl) (by rfl) m_sum (by decide +kernel) (pk_var (pv 10)))) (PD.k pd_int) (nomark _)) (pssd_one (psd_setIx (i := 10) (pd_ix (PD.k (PDo.d (pdo_lst (pxd_cons pd_int (pxd_cons (pd_op opd_pow (PD.k pd_int) (PD.k pd_int)) pxd_nil))))) (PD.k (pd_call A__law_draw hr (by rfl) (pad_pur (pv 0) (pad_cons pd_int pad_nil)))) (fun _ _ => rfl)) (pg_sub (pv 10) (pd_call A__law_draw hr (by rfl) (pad_pur (pv 0) (pad_cons (pd_b1 cad_len (by rfl) m_len PySem.boot_len (pk_var (pv 10))) pad_nil))) set_list))) pssd_nil)
      (pssd_rel 10 (pssd_one (psd_app (pe_bm PySem.F.plainAttrs_list PySem.F.slot_list_append PySem.F.type_list_append mt_append (pv 7) (pa_cons (pd_var (pv 10)) pa_nil)))))))))
      (pssd_rel 6 (pssd_rel 7 (pssd_one (psd_ret (pd_tup (pxd_cons (pd_t1 cad_tuple (by rfl) m_tuple (by decide +kernel) (pk_var (pv 4))) (pxd_cons (pd_var (pv 6)) (pxd_cons (pd_var (pv 7)) pxd_nil))))))))))))))), fun as T Qh Eh h => ?_⟩)
  · unfold G__law_market_by at h
    split at h
    · rfl
    · exact h.elim
  · unfold G__law_market_by at h
    split at h
    · rename_i n8
      obtain ⟨n81, n824, hT, h⟩ := h
      rw [show ∀ a0 a1, startE n_Lmarketby [a0, a1] = [a0, a1, .no, .no, .no, .no, .no, .no, .no, .no, .no] from fun _ _ => rfl]
      try simp only [dIsNv, dRevO, dPar, dPar3, dTryB, bSeq, bIf, bCall, bNil, dAug, iR3, dMod0, xStar, dRepO, dExcA, dTryK, dIsx, lose, loseV, dSeq, dRet, dRetN, dIfS, dTst, dTru, dOp, dVar, dVarK, dC, dChain, dNot, dAnd, dOr, dAndE, dOrE, dNotE, dBoolE, dIf, dFn, dB, dTup, dLst, dO, xNil, xCons, dNext, dSet, dSetO, dRel, relE, dExpr, dCall, dCallO, dCons, dNil, dPurA, dAsg, gdName, gdNil, gdCons, gdTup, dForS, dCut, dCutO, dNoP, dPart, dCatO, dListO, dLc, wipeE, dApp, dIns, dSetIx, dRaise, dRetO, dRetOE, dCount, dRev, iL, iT, iS, iR1, iR2, iEL, iET, iZ, dYes, s_tb, s_tn, s_ti, s_tl, s_tt, s_dd, s_do, s_ll, s_lt, s_ls, s_ul, s_ut, s_isStr_none, s_isStr_bool, s_isStr_int, s_isStr_str, s_isStr_list, s_isStr_tuple, s_isTup_none, s_isTup_bool, s_isTup_int, s_isTup_str, s_isTup_list, s_isTup_tuple, s_isLst_none, s_isLst_bool, s_isLst_int, s_isLst_str, s_isLst_list, s_isLst_tuple, s_isInt_none, s_isInt_bool, s_isInt_int, s_isInt_str, s_isInt_list, s_isInt_tuple, s_isBool_none, s_isBool_bool, s_isBool_int, s_isBool_str, s_isBool_list, s_isBool_tuple, s_isN_none, s_isN_bool, s_isN_int, s_isN_str, s_isN_list, s_isN_tuple, s_is, s_isnt, s_xl, s_xt, s_xs, s_cl, s_ct, s_cs, s_add, s_sub, s_lti, s_lei, s_gti, s_gei, s_min, s_max, s_neg, s_abs, s_os, at0, at1, at2, eqD_int, neD_int, List.getElem?_cons_zero, List.getElem?_cons_succ, List.set_cons_zero, List.set_cons_succ, List.map_cons, List.map_nil, Bool.false_eq_true, Bool.not_true, Bool.not_false, ite_true, ite_false, if_true, if_false, true_and, and_true]
      refine ⟨le_dn rfl, _, rfl, by omega, by decide, by decide, fun s s0 s1 => ?_⟩
      try simp only [dIsNv, dRevO, dPar, dPar3, dTryB, bSeq, bIf, bCall, bNil, dAug, iR3, dMod0, xStar, dRepO, dExcA, dTryK, dIsx, lose, loseV, dSeq, dRet, dRetN, dIfS, dTst, dTru, dOp, dVar, dVarK, dC, dChain, dNot, dAnd, dOr, dAndE, dOrE, dNotE, dBoolE, dIf, dFn, dB, dTup, dLst, dO, xNil, xCons, dNext, dSet, dSetO, dRel, relE, dExpr, dCall, dCallO, dCons, dNil, dPurA, dAsg, gdName, gdNil, gdCons, gdTup, dForS, dCut, dCutO, dNoP, dPart, dCatO, dListO, dLc, wipeE, dApp, dIns, dSetIx, dRaise, dRetO, dRetOE, dCount, dRev, iL, iT, iS, iR1, iR2, iEL, iET, iZ, dYes, s_tb, s_tn, s_ti, s_tl, s_tt, s_dd, s_do, s_ll, s_lt, s_ls, s_ul, s_ut, s_isStr_none, s_isStr_bool, s_isStr_int, s_isStr_str, s_isStr_list, s_isStr_tuple, s_isTup_none, s_isTup_bool, s_isTup_int, s_isTup_str, s_isTup_list, s_isTup_tuple, s_isLst_none, s_isLst_bool, s_isLst_int, s_isLst_str, s_isLst_list, s_isLst_tuple, s_isInt_none, s_isInt_bool, s_isInt_int, s_isInt_str, s_isInt_list, s_isInt_tuple, s_isBool_none, s_isBool_bool, s_isBool_int, s_isBool_str, s_isBool_list, s_isBool_tuple, s_isN_none, s_isN_bool, s_isN_int, s_isN_str, s_isN_list, s_isN_tuple, s_is, s_isnt, s_xl, s_xt, s_xs, s_cl, s_ct, s_cs, s_add, s_sub, s_lti, s_lei, s_gti, s_gei, s_min, s_max, s_neg, s_abs, s_os, at0, at1, at2, eqD_int, neD_int, List.getElem?_cons_zero, List.getElem?_cons_succ, List.set_cons_zero, List.set_cons_succ, List.map_cons, List.map_nil, Bool.false_eq_true, Bool.not_true, Bool.not_false, ite_true, ite_false, if_true, if_false, true_and, and_true]
      obtain ⟨sn, rfl⟩ : ∃ n : Nat, s = (n : Int) := ⟨s.toNat, by omega⟩
      refine optQ_of (addL (by have := cut_len names8 (some (sn : Int)) none; have := cut_len names8 none (some (sn : Int)); have : names8.length = 8 := rfl; show (cutG names8 _ _).length + (cutG names8 _ _).length ≤ _; omega)) ?_
      try simp only [dIsNv, dRevO, dPar, dPar3, dTryB, bSeq, bIf, bCall, bNil, dAug, iR3, dMod0, xStar, dRepO, dExcA, dTryK, dIsx, lose, loseV, dSeq, dRet, dRetN, dIfS, dTst, dTru, dOp, dVar, dVarK, dC, dChain, dNot, dAnd, dOr, dAndE, dOrE, dNotE, dBoolE, dIf, dFn, dB, dTup, dLst, dO, xNil, xCons, dNext, dSet, dSetO, dRel, relE, dExpr, dCall, dCallO, dCons, dNil, dPurA, dAsg, gdName, gdNil, gdCons, gdTup, dForS, dCut, dCutO, dNoP, dPart, dCatO, dListO, dLc, wipeE, dApp, dIns, dSetIx, dRaise, dRetO, dRetOE, dCount, dRev, iL, iT, iS, iR1, iR2, iEL, iET, iZ, dYes, s_tb, s_tn, s_ti, s_tl, s_tt, s_dd, s_do, s_ll, s_lt, s_ls, s_ul, s_ut, s_isStr_none, s_isStr_bool, s_isStr_int, s_isStr_str, s_isStr_list, s_isStr_tuple, s_isTup_none, s_isTup_bool, s_isTup_int, s_isTup_str, s_isTup_list, s_isTup_tuple, s_isLst_none, s_isLst_bool, s_isLst_int, s_isLst_str, s_isLst_list, s_isLst_tuple, s_isInt_none, s_isInt_bool, s_isInt_int, s_isInt_str, s_isInt_list, s_isInt_tuple, s_isBool_none, s_isBool_bool, s_isBool_int, s_isBool_str, s_isBool_list, s_isBool_tuple, s_isN_none, s_isN_bool, s_isN_int, s_isN_str, s_isN_list, s_isN_tuple, s_is, s_isnt, s_xl, s_xt, s_xs, s_cl, s_ct, s_cs, s_add, s_sub, s_lti, s_lei, s_gti, s_gei, s_min, s_max, s_neg, s_abs, s_os, at0, at1, at2, eqD_int, neD_int, List.getElem?_cons_zero, List.getElem?_cons_succ, List.set_cons_zero, List.set_cons_succ, List.map_cons, List.map_nil, Bool.false_eq_true, Bool.not_true, Bool.not_false, ite_true, ite_false, if_true, if_false, true_and, and_true]
      refine ⟨_, rfl, by omega, by decide, by decide, fun c c0 c1 => ?_⟩
      obtain ⟨cn, rfl⟩ : ∃ n : Nat, c = (n : Int) := ⟨c.toNat, by omega⟩
      try simp only [dIsNv, dRevO, dPar, dPar3, dTryB, bSeq, bIf, bCall, bNil, dAug, iR3, dMod0, xStar, dRepO, dExcA, dTryK, dIsx, lose, loseV, dSeq, dRet, dRetN, dIfS, dTst, dTru, dOp, dVar, dVarK, dC, dChain, dNot, dAnd, dOr, dAndE, dOrE, dNotE, dBoolE, dIf, dFn, dB, dTup, dLst, dO, xNil, xCons, dNext, dSet, dSetO, dRel, relE, dExpr, dCall, dCallO, dCons, dNil, dPurA, dAsg, gdName, gdNil, gdCons, gdTup, dForS, dCut, dCutO, dNoP, dPart, dCatO, dListO, dLc, wipeE, dApp, dIns, dSetIx, dRaise, dRetO, dRetOE, dCount, dRev, iL, iT, iS, iR1, iR2, iEL, iET, iZ, dYes, s_tb, s_tn, s_ti, s_tl, s_tt, s_dd, s_do, s_ll, s_lt, s_ls, s_ul, s_ut, s_isStr_none, s_isStr_bool, s_isStr_int, s_isStr_str, s_isStr_list, s_isStr_tuple, s_isTup_none, s_isTup_bool, s_isTup_int, s_isTup_str, s_isTup_list, s_isTup_tuple, s_isLst_none, s_isLst_bool, s_isLst_int, s_isLst_str, s_isLst_list, s_isLst_tuple, s_isInt_none, s_isInt_bool, s_isInt_int, s_isInt_str, s_isInt_list, s_isInt_tuple, s_isBool_none, s_isBool_bool, s_isBool_int, s_isBool_str, s_isBool_list, s_isBool_tuple, s_isN_none, s_isN_bool, s_isN_int, s_isN_str, s_isN_list, s_isN_tuple, s_is, s_isnt, s_xl, s_xt, s_xs, s_cl, s_ct, s_cs, s_add, s_sub, s_lti, s_lei, s_gti, s_gei, s_min, s_max, s_neg, s_abs, s_os, at0, at1, at2, eqD_int, neD_int, List.getElem?_cons_zero, List.getElem?_cons_succ, List.set_cons_zero, List.set_cons_succ, List.map_cons, List.map_nil, Bool.false_eq_true, Bool.not_true, Bool.not_false, ite_true, ite_false, if_true, if_false, true_and, and_true]
      have hg := goods_ok sn (List.mem_range.mpr (by omega)) cn (List.mem_range.mpr (by omega))
      unfold goodsOf names8 at hg
      rw [Bool.and_eq_true, decide_eq_true_iff] at hg
      generalize cutG (cutG [PyData.str "a", .str "milk", .str "eighteen", .str "b", .str "ab", .str "zz", .str "corn", .str "oil"] (some (sn : Int)) none ++ cutG [PyData.str "a", .str "milk", .str "eighteen", .str "b", .str "ab", .str "zz", .str "corn", .str "oil"] none (some (sn : Int))) none (some (1 + (cn : Int))) = gs at hg
      obtain ⟨gl, gn⟩ := hg
      refine ⟨le_dn rfl, _, rfl, by omega, by decide, by decide, fun fr f0 f1 => ?_⟩
      try simp only [dIsNv, dRevO, dPar, dPar3, dTryB, bSeq, bIf, bCall, bNil, dAug, iR3, dMod0, xStar, dRepO, dExcA, dTryK, dIsx, lose, loseV, dSeq, dRet, dRetN, dIfS, dTst, dTru, dOp, dVar, dVarK, dC, dChain, dNot, dAnd, dOr, dAndE, dOrE, dNotE, dBoolE, dIf, dFn, dB, dTup, dLst, dO, xNil, xCons, dNext, dSet, dSetO, dRel, relE, dExpr, dCall, dCallO, dCons, dNil, dPurA, dAsg, gdName, gdNil, gdCons, gdTup, dForS, dCut, dCutO, dNoP, dPart, dCatO, dListO, dLc, wipeE, dApp, dIns, dSetIx, dRaise, dRetO, dRetOE, dCount, dRev, iL, iT, iS, iR1, iR2, iEL, iET, iZ, dYes, s_tb, s_tn, s_ti, s_tl, s_tt, s_dd, s_do, s_ll, s_lt, s_ls, s_ul, s_ut, s_isStr_none, s_isStr_bool, s_isStr_int, s_isStr_str, s_isStr_list, s_isStr_tuple, s_isTup_none, s_isTup_bool, s_isTup_int, s_isTup_str, s_isTup_list, s_isTup_tuple, s_isLst_none, s_isLst_bool, s_isLst_int, s_isLst_str, s_isLst_list, s_isLst_tuple, s_isInt_none, s_isInt_bool, s_isInt_int, s_isInt_str, s_isInt_list, s_isInt_tuple, s_isBool_none, s_isBool_bool, s_isBool_int, s_isBool_str, s_isBool_list, s_isBool_tuple, s_isN_none, s_isN_bool, s_isN_int, s_isN_str, s_isN_list, s_isN_tuple, s_is, s_isnt, s_xl, s_xt, s_xs, s_cl, s_ct, s_cs, s_add, s_sub, s_lti, s_lei, s_gti, s_gei, s_min, s_max, s_neg, s_abs, s_os, at0, at1, at2, eqD_int, neD_int, List.getElem?_cons_zero, List.getElem?_cons_succ, List.set_cons_zero, List.set_cons_succ, List.map_cons, List.map_nil, Bool.false_eq_true, Bool.not_true, Bool.not_false, ite_true, ite_false, if_true, if_false, true_and, and_true]
      obtain ⟨far, efar, f1, f2⟩ : ∃ far : Int, atI ([.int 9, .int 100, .int (10 ^ Int.toNat 6)] : List PyData) fr = some (.int far) ∧ 1 ≤ far ∧ far ≤ 1000000 := by
        have hf : fr = 0 ∨ fr = 1 ∨ fr = 2 := by omega
        rcases hf with rfl | rfl | rfl
        · exact ⟨9, rfl, by decide, by decide⟩
        · exact ⟨100, rfl, by decide, by decide⟩
        · exact ⟨1000000, rfl, by decide, by decide⟩
      rw [efar]
      try simp only [dIsNv, dRevO, dPar, dPar3, dTryB, bSeq, bIf, bCall, bNil, dAug, iR3, dMod0, xStar, dRepO, dExcA, dTryK, dIsx, lose, loseV, dSeq, dRet, dRetN, dIfS, dTst, dTru, dOp, dVar, dVarK, dC, dChain, dNot, dAnd, dOr, dAndE, dOrE, dNotE, dBoolE, dIf, dFn, dB, dTup, dLst, dO, xNil, xCons, dNext, dSet, dSetO, dRel, relE, dExpr, dCall, dCallO, dCons, dNil, dPurA, dAsg, gdName, gdNil, gdCons, gdTup, dForS, dCut, dCutO, dNoP, dPart, dCatO, dListO, dLc, wipeE, dApp, dIns, dSetIx, dRaise, dRetO, dRetOE, dCount, dRev, iL, iT, iS, iR1, iR2, iEL, iET, iZ, dYes, s_tb, s_tn, s_ti, s_tl, s_tt, s_dd, s_do, s_ll, s_lt, s_ls, s_ul, s_ut, s_isStr_none, s_isStr_bool, s_isStr_int, s_isStr_str, s_isStr_list, s_isStr_tuple, s_isTup_none, s_isTup_bool, s_isTup_int, s_isTup_str, s_isTup_list, s_isTup_tuple, s_isLst_none, s_isLst_bool, s_isLst_int, s_isLst_str, s_isLst_list, s_isLst_tuple, s_isInt_none, s_isInt_bool, s_isInt_int, s_isInt_str, s_isInt_list, s_isInt_tuple, s_isBool_none, s_isBool_bool, s_isBool_int, s_isBool_str, s_isBool_list, s_isBool_tuple, s_isN_none, s_isN_bool, s_isN_int, s_isN_str, s_isN_list, s_isN_tuple, s_is, s_isnt, s_xl, s_xt, s_xs, s_cl, s_ct, s_cs, s_add, s_sub, s_lti, s_lei, s_gti, s_gei, s_min, s_max, s_neg, s_abs, s_os, at0, at1, at2, eqD_int, neD_int, List.getElem?_cons_zero, List.getElem?_cons_succ, List.set_cons_zero, List.set_cons_succ, List.map_cons, List.map_nil, Bool.false_eq_true, Bool.not_true, Bool.not_false, ite_true, ite_false, if_true, if_false, true_and, and_true]
      refine ⟨le_dn rfl, le_dn rfl, _, rfl, by omega, by omega, by omega, fun tm t0 t1 => ?_⟩
      try simp only [dIsNv, dRevO, dPar, dPar3, dTryB, bSeq, bIf, bCall, bNil, dAug, iR3, dMod0, xStar, dRepO, dExcA, dTryK, dIsx, lose, loseV, dSeq, dRet, dRetN, dIfS, dTst, dTru, dOp, dVar, dVarK, dC, dChain, dNot, dAnd, dOr, dAndE, dOrE, dNotE, dBoolE, dIf, dFn, dB, dTup, dLst, dO, xNil, xCons, dNext, dSet, dSetO, dRel, relE, dExpr, dCall, dCallO, dCons, dNil, dPurA, dAsg, gdName, gdNil, gdCons, gdTup, dForS, dCut, dCutO, dNoP, dPart, dCatO, dListO, dLc, wipeE, dApp, dIns, dSetIx, dRaise, dRetO, dRetOE, dCount, dRev, iL, iT, iS, iR1, iR2, iEL, iET, iZ, dYes, s_tb, s_tn, s_ti, s_tl, s_tt, s_dd, s_do, s_ll, s_lt, s_ls, s_ul, s_ut, s_isStr_none, s_isStr_bool, s_isStr_int, s_isStr_str, s_isStr_list, s_isStr_tuple, s_isTup_none, s_isTup_bool, s_isTup_int, s_isTup_str, s_isTup_list, s_isTup_tuple, s_isLst_none, s_isLst_bool, s_isLst_int, s_isLst_str, s_isLst_list, s_isLst_tuple, s_isInt_none, s_isInt_bool, s_isInt_int, s_isInt_str, s_isInt_list, s_isInt_tuple, s_isBool_none, s_isBool_bool, s_isBool_int, s_isBool_str, s_isBool_list, s_isBool_tuple, s_isN_none, s_isN_bool, s_isN_int, s_isN_str, s_isN_list, s_isN_tuple, s_is, s_isnt, s_xl, s_xt, s_xs, s_cl, s_ct, s_cs, s_add, s_sub, s_lti, s_lei, s_gti, s_gei, s_min, s_max, s_neg, s_abs, s_os, at0, at1, at2, eqD_int, neD_int, List.getElem?_cons_zero, List.getElem?_cons_succ, List.set_cons_zero, List.set_cons_succ, List.map_cons, List.map_nil, Bool.false_eq_true, Bool.not_true, Bool.not_false, ite_true, ite_false, if_true, if_false, true_and, and_true]
      obtain ⟨m, em⟩ : ∃ m : Nat, (1 + tm : Int) = (m : Nat) := ⟨(1 + tm).toNat, by omega⟩
      rw [em]
      refine ⟨by omega, ?_⟩
      rw [show rangeD 0 ((m : Nat) : Int).toNat = (List.range m).map iN from by rw [Int.toNat_natCast]; exact rangeD_nat]
      generalize hnm : PyData.list [PyData.str "a", .str "milk", .str "eighteen", .str "b", .str "ab", .str "zz", .str "corn", .str "oil"] = nms
      refine dFor_map iN (fun i E' T' => ∃ a b P A, E' = [.pur, .d (.int n8), .d nms, .d (.int sn), .d (.list gs), .d (.int far), .own (P.map intsL), .own (A.map intsL), a, .no, b] ∧ P.length = i ∧ A.length = i ∧ (∀ p ∈ P, RowP gs.length p) ∧ (∀ p ∈ A, RowA gs.length p) ∧ T' ≤ T + 4 + 40 * i) ⟨_, _, [], [], rfl, rfl, rfl, fun p hp => by simp at hp, fun p hp => by simp at hp, by omega⟩ (fun i i' E' T' K hi hI hK => ?_) (fun E' T' hI => ?_)
      · obtain ⟨a, b, P, A, rfl, lP, lA, hP, hA, hT'⟩ := hI
        have him := (List.getElem?_eq_some_iff.mp hi).1
        rw [List.length_range] at him
        rw [List.getElem?_range him] at hi
        cases hi
        unfold iN
        simp only [gdName, List.set_cons_zero, List.set_cons_succ]
        refine dSeq_cut (fun E' T2 => ∃ p, RowP gs.length p ∧ E' = [.pur, .d (.int n8), .d nms, .d (.int sn), .d (.list gs), .d (.int far), .own ((P ++ [p]).map intsL), .own (A.map intsL), .d (.int (i : Nat)), .no, b] ∧ T2 ≤ T' + 9) (fun E' T2 hR => ?_) (fun N hN => ?_)
        rotate_right
        · try simp only [dIsNv, dRevO, dPar, dPar3, dTryB, bSeq, bIf, bCall, bNil, dAug, iR3, dMod0, xStar, dRepO, dExcA, dTryK, dIsx, lose, loseV, dSeq, dRet, dRetN, dIfS, dTst, dTru, dOp, dVar, dVarK, dC, dChain, dNot, dAnd, dOr, dAndE, dOrE, dNotE, dBoolE, dIf, dFn, dB, dTup, dLst, dO, xNil, xCons, dNext, dSet, dSetO, dRel, relE, dExpr, dCall, dCallO, dCons, dNil, dPurA, dAsg, gdName, gdNil, gdCons, gdTup, dForS, dCut, dCutO, dNoP, dPart, dCatO, dListO, dLc, wipeE, dApp, dIns, dSetIx, dRaise, dRetO, dRetOE, dCount, dRev, iL, iT, iS, iR1, iR2, iEL, iET, iZ, dYes, s_tb, s_tn, s_ti, s_tl, s_tt, s_dd, s_do, s_ll, s_lt, s_ls, s_ul, s_ut, s_isStr_none, s_isStr_bool, s_isStr_int, s_isStr_str, s_isStr_list, s_isStr_tuple, s_isTup_none, s_isTup_bool, s_isTup_int, s_isTup_str, s_isTup_list, s_isTup_tuple, s_isLst_none, s_isLst_bool, s_isLst_int, s_isLst_str, s_isLst_list, s_isLst_tuple, s_isInt_none, s_isInt_bool, s_isInt_int, s_isInt_str, s_isInt_list, s_isInt_tuple, s_isBool_none, s_isBool_bool, s_isBool_int, s_isBool_str, s_isBool_list, s_isBool_tuple, s_isN_none, s_isN_bool, s_isN_int, s_isN_str, s_isN_list, s_isN_tuple, s_is, s_isnt, s_xl, s_xt, s_xs, s_cl, s_ct, s_cs, s_add, s_sub, s_lti, s_lei, s_gti, s_gei, s_min, s_max, s_neg, s_abs, s_os, at0, at1, at2, eqD_int, neD_int, List.getElem?_cons_zero, List.getElem?_cons_succ, List.set_cons_zero, List.set_cons_succ, List.map_cons, List.map_nil, Bool.false_eq_true, Bool.not_true, Bool.not_false, ite_true, ite_false, if_true, if_false, true_and, and_true]
          refine dif (fun e => ?_) (fun e => ?_)
          · refine ⟨_, rfl, by omega, by decide, by decide, fun r r0 r1 => ?_⟩
            try simp only [dIsNv, dRevO, dPar, dPar3, dTryB, bSeq, bIf, bCall, bNil, dAug, iR3, dMod0, xStar, dRepO, dExcA, dTryK, dIsx, lose, loseV, dSeq, dRet, dRetN, dIfS, dTst, dTru, dOp, dVar, dVarK, dC, dChain, dNot, dAnd, dOr, dAndE, dOrE, dNotE, dBoolE, dIf, dFn, dB, dTup, dLst, dO, xNil, xCons, dNext, dSet, dSetO, dRel, relE, dExpr, dCall, dCallO, dCons, dNil, dPurA, dAsg, gdName, gdNil, gdCons, gdTup, dForS, dCut, dCutO, dNoP, dPart, dCatO, dListO, dLc, wipeE, dApp, dIns, dSetIx, dRaise, dRetO, dRetOE, dCount, dRev, iL, iT, iS, iR1, iR2, iEL, iET, iZ, dYes, s_tb, s_tn, s_ti, s_tl, s_tt, s_dd, s_do, s_ll, s_lt, s_ls, s_ul, s_ut, s_isStr_none, s_isStr_bool, s_isStr_int, s_isStr_str, s_isStr_list, s_isStr_tuple, s_isTup_none, s_isTup_bool, s_isTup_int, s_isTup_str, s_isTup_list, s_isTup_tuple, s_isLst_none, s_isLst_bool, s_isLst_int, s_isLst_str, s_isLst_list, s_isLst_tuple, s_isInt_none, s_isInt_bool, s_isInt_int, s_isInt_str, s_isInt_list, s_isInt_tuple, s_isBool_none, s_isBool_bool, s_isBool_int, s_isBool_str, s_isBool_list, s_isBool_tuple, s_isN_none, s_isN_bool, s_isN_int, s_isN_str, s_isN_list, s_isN_tuple, s_is, s_isnt, s_xl, s_xt, s_xs, s_cl, s_ct, s_cs, s_add, s_sub, s_lti, s_lei, s_gti, s_gei, s_min, s_max, s_neg, s_abs, s_os, at0, at1, at2, eqD_int, neD_int, List.getElem?_cons_zero, List.getElem?_cons_succ, List.set_cons_zero, List.set_cons_succ, List.map_cons, List.map_nil, Bool.false_eq_true, Bool.not_true, Bool.not_false, ite_true, ite_false, if_true, if_false, true_and, and_true]
            refine dif (fun _ => ?_) (fun _ => ?_)
            · have hne : 0 < i := by have := of_decide_eq_true e; omega
              obtain ⟨p, hp⟩ : ∃ p, P[i - 1]? = some p := ⟨_, List.getElem?_eq_getElem (by omega)⟩
              rw [at_last (x := intsL p) (n := i - 1) (by rw [List.length_map]; omega) (by rw [List.getElem?_map, hp]; rfl)]
              refine ⟨by rw [List.length_map]; omega, hN _ _ ⟨p, hP _ (List.mem_of_getElem? hp), ?_, by omega⟩⟩
              rw [← app_map]
              rfl
            refine dLc_draw (fun y => ∃ n : Int, y = .int n ∧ 1 ≤ n ∧ n ≤ 1000000) 1 (by omega) (fun x T2 Ky Kn hx hT2 hy => ?_) (fun ys T2 hl hys hT2 => ?_)
            · try simp only [dIsNv, dRevO, dPar, dPar3, dTryB, bSeq, bIf, bCall, bNil, dAug, iR3, dMod0, xStar, dRepO, dExcA, dTryK, dIsx, lose, loseV, dSeq, dRet, dRetN, dIfS, dTst, dTru, dOp, dVar, dVarK, dC, dChain, dNot, dAnd, dOr, dAndE, dOrE, dNotE, dBoolE, dIf, dFn, dB, dTup, dLst, dO, xNil, xCons, dNext, dSet, dSetO, dRel, relE, dExpr, dCall, dCallO, dCons, dNil, dPurA, dAsg, gdName, gdNil, gdCons, gdTup, dForS, dCut, dCutO, dNoP, dPart, dCatO, dListO, dLc, wipeE, dApp, dIns, dSetIx, dRaise, dRetO, dRetOE, dCount, dRev, iL, iT, iS, iR1, iR2, iEL, iET, iZ, dYes, s_tb, s_tn, s_ti, s_tl, s_tt, s_dd, s_do, s_ll, s_lt, s_ls, s_ul, s_ut, s_isStr_none, s_isStr_bool, s_isStr_int, s_isStr_str, s_isStr_list, s_isStr_tuple, s_isTup_none, s_isTup_bool, s_isTup_int, s_isTup_str, s_isTup_list, s_isTup_tuple, s_isLst_none, s_isLst_bool, s_isLst_int, s_isLst_str, s_isLst_list, s_isLst_tuple, s_isInt_none, s_isInt_bool, s_isInt_int, s_isInt_str, s_isInt_list, s_isInt_tuple, s_isBool_none, s_isBool_bool, s_isBool_int, s_isBool_str, s_isBool_list, s_isBool_tuple, s_isN_none, s_isN_bool, s_isN_int, s_isN_str, s_isN_list, s_isN_tuple, s_is, s_isnt, s_xl, s_xt, s_xs, s_cl, s_ct, s_cs, s_add, s_sub, s_lti, s_lei, s_gti, s_gei, s_min, s_max, s_neg, s_abs, s_os, at0, at1, at2, eqD_int, neD_int, List.getElem?_cons_zero, List.getElem?_cons_succ, List.set_cons_zero, List.set_cons_succ, List.map_cons, List.map_nil, Bool.false_eq_true, Bool.not_true, Bool.not_false, ite_true, ite_false, if_true, if_false, true_and, and_true]
              refine ⟨_, rfl, by omega, by omega, by omega, fun r r0 r1 => ?_⟩
              try simp only [dIsNv, dRevO, dPar, dPar3, dTryB, bSeq, bIf, bCall, bNil, dAug, iR3, dMod0, xStar, dRepO, dExcA, dTryK, dIsx, lose, loseV, dSeq, dRet, dRetN, dIfS, dTst, dTru, dOp, dVar, dVarK, dC, dChain, dNot, dAnd, dOr, dAndE, dOrE, dNotE, dBoolE, dIf, dFn, dB, dTup, dLst, dO, xNil, xCons, dNext, dSet, dSetO, dRel, relE, dExpr, dCall, dCallO, dCons, dNil, dPurA, dAsg, gdName, gdNil, gdCons, gdTup, dForS, dCut, dCutO, dNoP, dPart, dCatO, dListO, dLc, wipeE, dApp, dIns, dSetIx, dRaise, dRetO, dRetOE, dCount, dRev, iL, iT, iS, iR1, iR2, iEL, iET, iZ, dYes, s_tb, s_tn, s_ti, s_tl, s_tt, s_dd, s_do, s_ll, s_lt, s_ls, s_ul, s_ut, s_isStr_none, s_isStr_bool, s_isStr_int, s_isStr_str, s_isStr_list, s_isStr_tuple, s_isTup_none, s_isTup_bool, s_isTup_int, s_isTup_str, s_isTup_list, s_isTup_tuple, s_isLst_none, s_isLst_bool, s_isLst_int, s_isLst_str, s_isLst_list, s_isLst_tuple, s_isInt_none, s_isInt_bool, s_isInt_int, s_isInt_str, s_isInt_list, s_isInt_tuple, s_isBool_none, s_isBool_bool, s_isBool_int, s_isBool_str, s_isBool_list, s_isBool_tuple, s_isN_none, s_isN_bool, s_isN_int, s_isN_str, s_isN_list, s_isN_tuple, s_is, s_isnt, s_xl, s_xt, s_xs, s_cl, s_ct, s_cs, s_add, s_sub, s_lti, s_lei, s_gti, s_gei, s_min, s_max, s_neg, s_abs, s_os, at0, at1, at2, eqD_int, neD_int, List.getElem?_cons_zero, List.getElem?_cons_succ, List.set_cons_zero, List.set_cons_succ, List.map_cons, List.map_nil, Bool.false_eq_true, Bool.not_true, Bool.not_false, ite_true, ite_false, if_true, if_false, true_and, and_true]
              exact hy _ _ ⟨_, rfl, by omega, by omega⟩ (by omega)
            · obtain ⟨ns, rfl, hn⟩ := ints_ex hys
              refine ⟨by rw [List.length_map]; omega, hN _ _ ⟨ns, ⟨by rw [List.length_map] at hl; exact hl, hn⟩, ?_, by omega⟩⟩
              rw [← app_map]
              rfl
          · skip
            refine dLc_draw (fun y => ∃ n : Int, y = .int n ∧ 1 ≤ n ∧ n ≤ 1000000) 1 (by omega) (fun x T2 Ky Kn hx hT2 hy => ?_) (fun ys T2 hl hys hT2 => ?_)
            · try simp only [dIsNv, dRevO, dPar, dPar3, dTryB, bSeq, bIf, bCall, bNil, dAug, iR3, dMod0, xStar, dRepO, dExcA, dTryK, dIsx, lose, loseV, dSeq, dRet, dRetN, dIfS, dTst, dTru, dOp, dVar, dVarK, dC, dChain, dNot, dAnd, dOr, dAndE, dOrE, dNotE, dBoolE, dIf, dFn, dB, dTup, dLst, dO, xNil, xCons, dNext, dSet, dSetO, dRel, relE, dExpr, dCall, dCallO, dCons, dNil, dPurA, dAsg, gdName, gdNil, gdCons, gdTup, dForS, dCut, dCutO, dNoP, dPart, dCatO, dListO, dLc, wipeE, dApp, dIns, dSetIx, dRaise, dRetO, dRetOE, dCount, dRev, iL, iT, iS, iR1, iR2, iEL, iET, iZ, dYes, s_tb, s_tn, s_ti, s_tl, s_tt, s_dd, s_do, s_ll, s_lt, s_ls, s_ul, s_ut, s_isStr_none, s_isStr_bool, s_isStr_int, s_isStr_str, s_isStr_list, s_isStr_tuple, s_isTup_none, s_isTup_bool, s_isTup_int, s_isTup_str, s_isTup_list, s_isTup_tuple, s_isLst_none, s_isLst_bool, s_isLst_int, s_isLst_str, s_isLst_list, s_isLst_tuple, s_isInt_none, s_isInt_bool, s_isInt_int, s_isInt_str, s_isInt_list, s_isInt_tuple, s_isBool_none, s_isBool_bool, s_isBool_int, s_isBool_str, s_isBool_list, s_isBool_tuple, s_isN_none, s_isN_bool, s_isN_int, s_isN_str, s_isN_list, s_isN_tuple, s_is, s_isnt, s_xl, s_xt, s_xs, s_cl, s_ct, s_cs, s_add, s_sub, s_lti, s_lei, s_gti, s_gei, s_min, s_max, s_neg, s_abs, s_os, at0, at1, at2, eqD_int, neD_int, List.getElem?_cons_zero, List.getElem?_cons_succ, List.set_cons_zero, List.set_cons_succ, List.map_cons, List.map_nil, Bool.false_eq_true, Bool.not_true, Bool.not_false, ite_true, ite_false, if_true, if_false, true_and, and_true]
              refine ⟨_, rfl, by omega, by omega, by omega, fun r r0 r1 => ?_⟩
              try simp only [dIsNv, dRevO, dPar, dPar3, dTryB, bSeq, bIf, bCall, bNil, dAug, iR3, dMod0, xStar, dRepO, dExcA, dTryK, dIsx, lose, loseV, dSeq, dRet, dRetN, dIfS, dTst, dTru, dOp, dVar, dVarK, dC, dChain, dNot, dAnd, dOr, dAndE, dOrE, dNotE, dBoolE, dIf, dFn, dB, dTup, dLst, dO, xNil, xCons, dNext, dSet, dSetO, dRel, relE, dExpr, dCall, dCallO, dCons, dNil, dPurA, dAsg, gdName, gdNil, gdCons, gdTup, dForS, dCut, dCutO, dNoP, dPart, dCatO, dListO, dLc, wipeE, dApp, dIns, dSetIx, dRaise, dRetO, dRetOE, dCount, dRev, iL, iT, iS, iR1, iR2, iEL, iET, iZ, dYes, s_tb, s_tn, s_ti, s_tl, s_tt, s_dd, s_do, s_ll, s_lt, s_ls, s_ul, s_ut, s_isStr_none, s_isStr_bool, s_isStr_int, s_isStr_str, s_isStr_list, s_isStr_tuple, s_isTup_none, s_isTup_bool, s_isTup_int, s_isTup_str, s_isTup_list, s_isTup_tuple, s_isLst_none, s_isLst_bool, s_isLst_int, s_isLst_str, s_isLst_list, s_isLst_tuple, s_isInt_none, s_isInt_bool, s_isInt_int, s_isInt_str, s_isInt_list, s_isInt_tuple, s_isBool_none, s_isBool_bool, s_isBool_int, s_isBool_str, s_isBool_list, s_isBool_tuple, s_isN_none, s_isN_bool, s_isN_int, s_isN_str, s_isN_list, s_isN_tuple, s_is, s_isnt, s_xl, s_xt, s_xs, s_cl, s_ct, s_cs, s_add, s_sub, s_lti, s_lei, s_gti, s_gei, s_min, s_max, s_neg, s_abs, s_os, at0, at1, at2, eqD_int, neD_int, List.getElem?_cons_zero, List.getElem?_cons_succ, List.set_cons_zero, List.set_cons_succ, List.map_cons, List.map_nil, Bool.false_eq_true, Bool.not_true, Bool.not_false, ite_true, ite_false, if_true, if_false, true_and, and_true]
              exact hy _ _ ⟨_, rfl, by omega, by omega⟩ (by omega)
            · obtain ⟨ns, rfl, hn⟩ := ints_ex hys
              refine ⟨by rw [List.length_map]; omega, hN _ _ ⟨ns, ⟨by rw [List.length_map] at hl; exact hl, hn⟩, ?_, by omega⟩⟩
              rw [← app_map]
              rfl
        obtain ⟨p, hp, rfl, hT2⟩ := hR
        refine dSeq_cut (fun E' T3 => ∃ q : List Int, q.length = gs.length ∧ (∀ v ∈ q, 0 ≤ v ∧ v ≤ 1000000) ∧ E' = [.pur, .d (.int n8), .d nms, .d (.int sn), .d (.list gs), .d (.int far), .own ((P ++ [p]).map intsL), .own (A.map intsL), .d (.int (i : Nat)), .no, .own (q.map PyData.int)] ∧ T3 ≤ T2 + 16) (fun E' T3 hR => ?_) (fun N hN => ?_)
        rotate_right
        · try simp only [dIsNv, dRevO, dPar, dPar3, dTryB, bSeq, bIf, bCall, bNil, dAug, iR3, dMod0, xStar, dRepO, dExcA, dTryK, dIsx, lose, loseV, dSeq, dRet, dRetN, dIfS, dTst, dTru, dOp, dVar, dVarK, dC, dChain, dNot, dAnd, dOr, dAndE, dOrE, dNotE, dBoolE, dIf, dFn, dB, dTup, dLst, dO, xNil, xCons, dNext, dSet, dSetO, dRel, relE, dExpr, dCall, dCallO, dCons, dNil, dPurA, dAsg, gdName, gdNil, gdCons, gdTup, dForS, dCut, dCutO, dNoP, dPart, dCatO, dListO, dLc, wipeE, dApp, dIns, dSetIx, dRaise, dRetO, dRetOE, dCount, dRev, iL, iT, iS, iR1, iR2, iEL, iET, iZ, dYes, s_tb, s_tn, s_ti, s_tl, s_tt, s_dd, s_do, s_ll, s_lt, s_ls, s_ul, s_ut, s_isStr_none, s_isStr_bool, s_isStr_int, s_isStr_str, s_isStr_list, s_isStr_tuple, s_isTup_none, s_isTup_bool, s_isTup_int, s_isTup_str, s_isTup_list, s_isTup_tuple, s_isLst_none, s_isLst_bool, s_isLst_int, s_isLst_str, s_isLst_list, s_isLst_tuple, s_isInt_none, s_isInt_bool, s_isInt_int, s_isInt_str, s_isInt_list, s_isInt_tuple, s_isBool_none, s_isBool_bool, s_isBool_int, s_isBool_str, s_isBool_list, s_isBool_tuple, s_isN_none, s_isN_bool, s_isN_int, s_isN_str, s_isN_list, s_isN_tuple, s_is, s_isnt, s_xl, s_xt, s_xs, s_cl, s_ct, s_cs, s_add, s_sub, s_lti, s_lei, s_gti, s_gei, s_min, s_max, s_neg, s_abs, s_os, at0, at1, at2, eqD_int, neD_int, List.getElem?_cons_zero, List.getElem?_cons_succ, List.set_cons_zero, List.set_cons_succ, List.map_cons, List.map_nil, Bool.false_eq_true, Bool.not_true, Bool.not_false, ite_true, ite_false, if_true, if_false, true_and, and_true]
          refine dLc_draw (fun y => ∃ n : Int, y = .int n ∧ 0 ≤ n ∧ n ≤ 1000000) 2 (by omega) (fun x T4 Ky Kn hx hT4 hy => ?_) (fun ys T4 hl hys hT4 => ?_)
          · try simp only [dIsNv, dRevO, dPar, dPar3, dTryB, bSeq, bIf, bCall, bNil, dAug, iR3, dMod0, xStar, dRepO, dExcA, dTryK, dIsx, lose, loseV, dSeq, dRet, dRetN, dIfS, dTst, dTru, dOp, dVar, dVarK, dC, dChain, dNot, dAnd, dOr, dAndE, dOrE, dNotE, dBoolE, dIf, dFn, dB, dTup, dLst, dO, xNil, xCons, dNext, dSet, dSetO, dRel, relE, dExpr, dCall, dCallO, dCons, dNil, dPurA, dAsg, gdName, gdNil, gdCons, gdTup, dForS, dCut, dCutO, dNoP, dPart, dCatO, dListO, dLc, wipeE, dApp, dIns, dSetIx, dRaise, dRetO, dRetOE, dCount, dRev, iL, iT, iS, iR1, iR2, iEL, iET, iZ, dYes, s_tb, s_tn, s_ti, s_tl, s_tt, s_dd, s_do, s_ll, s_lt, s_ls, s_ul, s_ut, s_isStr_none, s_isStr_bool, s_isStr_int, s_isStr_str, s_isStr_list, s_isStr_tuple, s_isTup_none, s_isTup_bool, s_isTup_int, s_isTup_str, s_isTup_list, s_isTup_tuple, s_isLst_none, s_isLst_bool, s_isLst_int, s_isLst_str, s_isLst_list, s_isLst_tuple, s_isInt_none, s_isInt_bool, s_isInt_int, s_isInt_str, s_isInt_list, s_isInt_tuple, s_isBool_none, s_isBool_bool, s_isBool_int, s_isBool_str, s_isBool_list, s_isBool_tuple, s_isN_none, s_isN_bool, s_isN_int, s_isN_str, s_isN_list, s_isN_tuple, s_is, s_isnt, s_xl, s_xt, s_xs, s_cl, s_ct, s_cs, s_add, s_sub, s_lti, s_lei, s_gti, s_gei, s_min, s_max, s_neg, s_abs, s_os, at0, at1, at2, eqD_int, neD_int, List.getElem?_cons_zero, List.getElem?_cons_succ, List.set_cons_zero, List.set_cons_succ, List.map_cons, List.map_nil, Bool.false_eq_true, Bool.not_true, Bool.not_false, ite_true, ite_false, if_true, if_false, true_and, and_true]
            refine ⟨_, rfl, by omega, by omega, by omega, fun r r0 r1 => ?_⟩
            try simp only [dIsNv, dRevO, dPar, dPar3, dTryB, bSeq, bIf, bCall, bNil, dAug, iR3, dMod0, xStar, dRepO, dExcA, dTryK, dIsx, lose, loseV, dSeq, dRet, dRetN, dIfS, dTst, dTru, dOp, dVar, dVarK, dC, dChain, dNot, dAnd, dOr, dAndE, dOrE, dNotE, dBoolE, dIf, dFn, dB, dTup, dLst, dO, xNil, xCons, dNext, dSet, dSetO, dRel, relE, dExpr, dCall, dCallO, dCons, dNil, dPurA, dAsg, gdName, gdNil, gdCons, gdTup, dForS, dCut, dCutO, dNoP, dPart, dCatO, dListO, dLc, wipeE, dApp, dIns, dSetIx, dRaise, dRetO, dRetOE, dCount, dRev, iL, iT, iS, iR1, iR2, iEL, iET, iZ, dYes, s_tb, s_tn, s_ti, s_tl, s_tt, s_dd, s_do, s_ll, s_lt, s_ls, s_ul, s_ut, s_isStr_none, s_isStr_bool, s_isStr_int, s_isStr_str, s_isStr_list, s_isStr_tuple, s_isTup_none, s_isTup_bool, s_isTup_int, s_isTup_str, s_isTup_list, s_isTup_tuple, s_isLst_none, s_isLst_bool, s_isLst_int, s_isLst_str, s_isLst_list, s_isLst_tuple, s_isInt_none, s_isInt_bool, s_isInt_int, s_isInt_str, s_isInt_list, s_isInt_tuple, s_isBool_none, s_isBool_bool, s_isBool_int, s_isBool_str, s_isBool_list, s_isBool_tuple, s_isN_none, s_isN_bool, s_isN_int, s_isN_str, s_isN_list, s_isN_tuple, s_is, s_isnt, s_xl, s_xt, s_xs, s_cl, s_ct, s_cs, s_add, s_sub, s_lti, s_lei, s_gti, s_gei, s_min, s_max, s_neg, s_abs, s_os, at0, at1, at2, eqD_int, neD_int, List.getElem?_cons_zero, List.getElem?_cons_succ, List.set_cons_zero, List.set_cons_succ, List.map_cons, List.map_nil, Bool.false_eq_true, Bool.not_true, Bool.not_false, ite_true, ite_false, if_true, if_false, true_and, and_true]
            refine ⟨_, rfl, by omega, by omega, by omega, fun r2 r20 r21 => ?_⟩
            try simp only [dIsNv, dRevO, dPar, dPar3, dTryB, bSeq, bIf, bCall, bNil, dAug, iR3, dMod0, xStar, dRepO, dExcA, dTryK, dIsx, lose, loseV, dSeq, dRet, dRetN, dIfS, dTst, dTru, dOp, dVar, dVarK, dC, dChain, dNot, dAnd, dOr, dAndE, dOrE, dNotE, dBoolE, dIf, dFn, dB, dTup, dLst, dO, xNil, xCons, dNext, dSet, dSetO, dRel, relE, dExpr, dCall, dCallO, dCons, dNil, dPurA, dAsg, gdName, gdNil, gdCons, gdTup, dForS, dCut, dCutO, dNoP, dPart, dCatO, dListO, dLc, wipeE, dApp, dIns, dSetIx, dRaise, dRetO, dRetOE, dCount, dRev, iL, iT, iS, iR1, iR2, iEL, iET, iZ, dYes, s_tb, s_tn, s_ti, s_tl, s_tt, s_dd, s_do, s_ll, s_lt, s_ls, s_ul, s_ut, s_isStr_none, s_isStr_bool, s_isStr_int, s_isStr_str, s_isStr_list, s_isStr_tuple, s_isTup_none, s_isTup_bool, s_isTup_int, s_isTup_str, s_isTup_list, s_isTup_tuple, s_isLst_none, s_isLst_bool, s_isLst_int, s_isLst_str, s_isLst_list, s_isLst_tuple, s_isInt_none, s_isInt_bool, s_isInt_int, s_isInt_str, s_isInt_list, s_isInt_tuple, s_isBool_none, s_isBool_bool, s_isBool_int, s_isBool_str, s_isBool_list, s_isBool_tuple, s_isN_none, s_isN_bool, s_isN_int, s_isN_str, s_isN_list, s_isN_tuple, s_is, s_isnt, s_xl, s_xt, s_xs, s_cl, s_ct, s_cs, s_add, s_sub, s_lti, s_lei, s_gti, s_gei, s_min, s_max, s_neg, s_abs, s_os, at0, at1, at2, eqD_int, neD_int, List.getElem?_cons_zero, List.getElem?_cons_succ, List.set_cons_zero, List.set_cons_succ, List.map_cons, List.map_nil, Bool.false_eq_true, Bool.not_true, Bool.not_false, ite_true, ite_false, if_true, if_false, true_and, and_true]
            refine q_mul (small8 (by omega)) (small8 (by omega)) ?_
            have h2 : r2 = 0 ∨ r2 = 1 := by omega
            rcases h2 with rfl | rfl
            · exact hy _ _ ⟨_, rfl, by omega, by omega⟩ (by omega)
            · exact hy _ _ ⟨_, rfl, by omega, by omega⟩ (by omega)
          · obtain ⟨ns, rfl, hn⟩ := ints_ex hys
            exact hN _ _ ⟨ns, by rw [List.length_map] at hl; exact hl, hn, rfl, by omega⟩
        obtain ⟨q, lq, hq, rfl, hT3⟩ := hR
        refine dSeq_cut (fun E' T4 => ∃ q : List Int, RowA gs.length q ∧ E' = [.pur, .d (.int n8), .d nms, .d (.int sn), .d (.list gs), .d (.int far), .own ((P ++ [p]).map intsL), .own (A.map intsL), .d (.int (i : Nat)), .no, .own (q.map PyData.int)] ∧ T4 ≤ T3 + 2) (fun E' T4 hR => ?_) (fun N hN => ?_)
        rotate_right
        · try simp only [dIsNv, dRevO, dPar, dPar3, dTryB, bSeq, bIf, bCall, bNil, dAug, iR3, dMod0, xStar, dRepO, dExcA, dTryK, dIsx, lose, loseV, dSeq, dRet, dRetN, dIfS, dTst, dTru, dOp, dVar, dVarK, dC, dChain, dNot, dAnd, dOr, dAndE, dOrE, dNotE, dBoolE, dIf, dFn, dB, dTup, dLst, dO, xNil, xCons, dNext, dSet, dSetO, dRel, relE, dExpr, dCall, dCallO, dCons, dNil, dPurA, dAsg, gdName, gdNil, gdCons, gdTup, dForS, dCut, dCutO, dNoP, dPart, dCatO, dListO, dLc, wipeE, dApp, dIns, dSetIx, dRaise, dRetO, dRetOE, dCount, dRev, iL, iT, iS, iR1, iR2, iEL, iET, iZ, dYes, s_tb, s_tn, s_ti, s_tl, s_tt, s_dd, s_do, s_ll, s_lt, s_ls, s_ul, s_ut, s_isStr_none, s_isStr_bool, s_isStr_int, s_isStr_str, s_isStr_list, s_isStr_tuple, s_isTup_none, s_isTup_bool, s_isTup_int, s_isTup_str, s_isTup_list, s_isTup_tuple, s_isLst_none, s_isLst_bool, s_isLst_int, s_isLst_str, s_isLst_list, s_isLst_tuple, s_isInt_none, s_isInt_bool, s_isInt_int, s_isInt_str, s_isInt_list, s_isInt_tuple, s_isBool_none, s_isBool_bool, s_isBool_int, s_isBool_str, s_isBool_list, s_isBool_tuple, s_isN_none, s_isN_bool, s_isN_int, s_isN_str, s_isN_list, s_isN_tuple, s_is, s_isnt, s_xl, s_xt, s_xs, s_cl, s_ct, s_cs, s_add, s_sub, s_lti, s_lei, s_gti, s_gei, s_min, s_max, s_neg, s_abs, s_os, at0, at1, at2, eqD_int, neD_int, List.getElem?_cons_zero, List.getElem?_cons_succ, List.set_cons_zero, List.set_cons_succ, List.map_cons, List.map_nil, Bool.false_eq_true, Bool.not_true, Bool.not_false, ite_true, ite_false, if_true, if_false, true_and, and_true]
          rw [sumD_map]
          try simp only [dIsNv, dRevO, dPar, dPar3, dTryB, bSeq, bIf, bCall, bNil, dAug, iR3, dMod0, xStar, dRepO, dExcA, dTryK, dIsx, lose, loseV, dSeq, dRet, dRetN, dIfS, dTst, dTru, dOp, dVar, dVarK, dC, dChain, dNot, dAnd, dOr, dAndE, dOrE, dNotE, dBoolE, dIf, dFn, dB, dTup, dLst, dO, xNil, xCons, dNext, dSet, dSetO, dRel, relE, dExpr, dCall, dCallO, dCons, dNil, dPurA, dAsg, gdName, gdNil, gdCons, gdTup, dForS, dCut, dCutO, dNoP, dPart, dCatO, dListO, dLc, wipeE, dApp, dIns, dSetIx, dRaise, dRetO, dRetOE, dCount, dRev, iL, iT, iS, iR1, iR2, iEL, iET, iZ, dYes, s_tb, s_tn, s_ti, s_tl, s_tt, s_dd, s_do, s_ll, s_lt, s_ls, s_ul, s_ut, s_isStr_none, s_isStr_bool, s_isStr_int, s_isStr_str, s_isStr_list, s_isStr_tuple, s_isTup_none, s_isTup_bool, s_isTup_int, s_isTup_str, s_isTup_list, s_isTup_tuple, s_isLst_none, s_isLst_bool, s_isLst_int, s_isLst_str, s_isLst_list, s_isLst_tuple, s_isInt_none, s_isInt_bool, s_isInt_int, s_isInt_str, s_isInt_list, s_isInt_tuple, s_isBool_none, s_isBool_bool, s_isBool_int, s_isBool_str, s_isBool_list, s_isBool_tuple, s_isN_none, s_isN_bool, s_isN_int, s_isN_str, s_isN_list, s_isN_tuple, s_is, s_isnt, s_xl, s_xt, s_xs, s_cl, s_ct, s_cs, s_add, s_sub, s_lti, s_lei, s_gti, s_gei, s_min, s_max, s_neg, s_abs, s_os, at0, at1, at2, eqD_int, neD_int, List.getElem?_cons_zero, List.getElem?_cons_succ, List.set_cons_zero, List.set_cons_succ, List.map_cons, List.map_nil, Bool.false_eq_true, Bool.not_true, Bool.not_false, ite_true, ite_false, if_true, if_false, true_and, and_true]
          rw [sum_zero (fun v hv => (hq v hv).1)]
          refine dif (fun e => ?_) (fun e => ?_)
          · refine ⟨le_dn rfl, _, rfl, by omega, by decide, by decide, fun r r0 r1 => ?_⟩
            try simp only [dIsNv, dRevO, dPar, dPar3, dTryB, bSeq, bIf, bCall, bNil, dAug, iR3, dMod0, xStar, dRepO, dExcA, dTryK, dIsx, lose, loseV, dSeq, dRet, dRetN, dIfS, dTst, dTru, dOp, dVar, dVarK, dC, dChain, dNot, dAnd, dOr, dAndE, dOrE, dNotE, dBoolE, dIf, dFn, dB, dTup, dLst, dO, xNil, xCons, dNext, dSet, dSetO, dRel, relE, dExpr, dCall, dCallO, dCons, dNil, dPurA, dAsg, gdName, gdNil, gdCons, gdTup, dForS, dCut, dCutO, dNoP, dPart, dCatO, dListO, dLc, wipeE, dApp, dIns, dSetIx, dRaise, dRetO, dRetOE, dCount, dRev, iL, iT, iS, iR1, iR2, iEL, iET, iZ, dYes, s_tb, s_tn, s_ti, s_tl, s_tt, s_dd, s_do, s_ll, s_lt, s_ls, s_ul, s_ut, s_isStr_none, s_isStr_bool, s_isStr_int, s_isStr_str, s_isStr_list, s_isStr_tuple, s_isTup_none, s_isTup_bool, s_isTup_int, s_isTup_str, s_isTup_list, s_isTup_tuple, s_isLst_none, s_isLst_bool, s_isLst_int, s_isLst_str, s_isLst_list, s_isLst_tuple, s_isInt_none, s_isInt_bool, s_isInt_int, s_isInt_str, s_isInt_list, s_isInt_tuple, s_isBool_none, s_isBool_bool, s_isBool_int, s_isBool_str, s_isBool_list, s_isBool_tuple, s_isN_none, s_isN_bool, s_isN_int, s_isN_str, s_isN_list, s_isN_tuple, s_is, s_isnt, s_xl, s_xt, s_xs, s_cl, s_ct, s_cs, s_add, s_sub, s_lti, s_lei, s_gti, s_gei, s_min, s_max, s_neg, s_abs, s_os, at0, at1, at2, eqD_int, neD_int, List.getElem?_cons_zero, List.getElem?_cons_succ, List.set_cons_zero, List.set_cons_succ, List.map_cons, List.map_nil, Bool.false_eq_true, Bool.not_true, Bool.not_false, ite_true, ite_false, if_true, if_false, true_and, and_true]
            obtain ⟨v, ev, v1, v2⟩ : ∃ v : Int, atI ([.int 1, .int (10 ^ Int.toNat 6)] : List PyData) r = some (.int v) ∧ 1 ≤ v ∧ v ≤ 1000000 := by
              have hf : r = 0 ∨ r = 1 := by omega
              rcases hf with rfl | rfl
              · exact ⟨1, rfl, by decide, by decide⟩
              · exact ⟨1000000, rfl, by decide, by decide⟩
            rw [ev]
            try simp only [dIsNv, dRevO, dPar, dPar3, dTryB, bSeq, bIf, bCall, bNil, dAug, iR3, dMod0, xStar, dRepO, dExcA, dTryK, dIsx, lose, loseV, dSeq, dRet, dRetN, dIfS, dTst, dTru, dOp, dVar, dVarK, dC, dChain, dNot, dAnd, dOr, dAndE, dOrE, dNotE, dBoolE, dIf, dFn, dB, dTup, dLst, dO, xNil, xCons, dNext, dSet, dSetO, dRel, relE, dExpr, dCall, dCallO, dCons, dNil, dPurA, dAsg, gdName, gdNil, gdCons, gdTup, dForS, dCut, dCutO, dNoP, dPart, dCatO, dListO, dLc, wipeE, dApp, dIns, dSetIx, dRaise, dRetO, dRetOE, dCount, dRev, iL, iT, iS, iR1, iR2, iEL, iET, iZ, dYes, s_tb, s_tn, s_ti, s_tl, s_tt, s_dd, s_do, s_ll, s_lt, s_ls, s_ul, s_ut, s_isStr_none, s_isStr_bool, s_isStr_int, s_isStr_str, s_isStr_list, s_isStr_tuple, s_isTup_none, s_isTup_bool, s_isTup_int, s_isTup_str, s_isTup_list, s_isTup_tuple, s_isLst_none, s_isLst_bool, s_isLst_int, s_isLst_str, s_isLst_list, s_isLst_tuple, s_isInt_none, s_isInt_bool, s_isInt_int, s_isInt_str, s_isInt_list, s_isInt_tuple, s_isBool_none, s_isBool_bool, s_isBool_int, s_isBool_str, s_isBool_list, s_isBool_tuple, s_isN_none, s_isN_bool, s_isN_int, s_isN_str, s_isN_list, s_isN_tuple, s_is, s_isnt, s_xl, s_xt, s_xs, s_cl, s_ct, s_cs, s_add, s_sub, s_lti, s_lei, s_gti, s_gei, s_min, s_max, s_neg, s_abs, s_os, at0, at1, at2, eqD_int, neD_int, List.getElem?_cons_zero, List.getElem?_cons_succ, List.set_cons_zero, List.set_cons_succ, List.map_cons, List.map_nil, Bool.false_eq_true, Bool.not_true, Bool.not_false, ite_true, ite_false, if_true, if_false, true_and, and_true]
            rw [List.length_map]
            refine ⟨_, rfl, by omega, by omega, by omega, fun r2 r20 r21 => ?_⟩
            obtain ⟨jn, rfl⟩ : ∃ n : Nat, r2 = (n : Int) := ⟨r2.toNat, by omega⟩
            try simp only [dIsNv, dRevO, dPar, dPar3, dTryB, bSeq, bIf, bCall, bNil, dAug, iR3, dMod0, xStar, dRepO, dExcA, dTryK, dIsx, lose, loseV, dSeq, dRet, dRetN, dIfS, dTst, dTru, dOp, dVar, dVarK, dC, dChain, dNot, dAnd, dOr, dAndE, dOrE, dNotE, dBoolE, dIf, dFn, dB, dTup, dLst, dO, xNil, xCons, dNext, dSet, dSetO, dRel, relE, dExpr, dCall, dCallO, dCons, dNil, dPurA, dAsg, gdName, gdNil, gdCons, gdTup, dForS, dCut, dCutO, dNoP, dPart, dCatO, dListO, dLc, wipeE, dApp, dIns, dSetIx, dRaise, dRetO, dRetOE, dCount, dRev, iL, iT, iS, iR1, iR2, iEL, iET, iZ, dYes, s_tb, s_tn, s_ti, s_tl, s_tt, s_dd, s_do, s_ll, s_lt, s_ls, s_ul, s_ut, s_isStr_none, s_isStr_bool, s_isStr_int, s_isStr_str, s_isStr_list, s_isStr_tuple, s_isTup_none, s_isTup_bool, s_isTup_int, s_isTup_str, s_isTup_list, s_isTup_tuple, s_isLst_none, s_isLst_bool, s_isLst_int, s_isLst_str, s_isLst_list, s_isLst_tuple, s_isInt_none, s_isInt_bool, s_isInt_int, s_isInt_str, s_isInt_list, s_isInt_tuple, s_isBool_none, s_isBool_bool, s_isBool_int, s_isBool_str, s_isBool_list, s_isBool_tuple, s_isN_none, s_isN_bool, s_isN_int, s_isN_str, s_isN_list, s_isN_tuple, s_is, s_isnt, s_xl, s_xt, s_xs, s_cl, s_ct, s_cs, s_add, s_sub, s_lti, s_lei, s_gti, s_gei, s_min, s_max, s_neg, s_abs, s_os, at0, at1, at2, eqD_int, neD_int, List.getElem?_cons_zero, List.getElem?_cons_succ, List.set_cons_zero, List.set_cons_succ, List.map_cons, List.map_nil, Bool.false_eq_true, Bool.not_true, Bool.not_false, ite_true, ite_false, if_true, if_false, true_and, and_true]
            rw [Cv.ixN_nat' (by omega)]
            simp only []
            rw [set_ints]
            refine hN _ _ ⟨q.set jn v, ⟨by rw [List.length_set]; exact lq, fun u hu => ?_, v, List.mem_set (by omega) v, by omega⟩, rfl, by omega⟩
            rcases mem_set_int hu with rfl | hu
            · omega
            · exact hq u hu
          · refine hN _ _ ⟨q, ⟨lq, hq, ?_⟩, rfl, by omega⟩
            obtain ⟨d, hd, hpd⟩ := List.any_eq_true.mp (nF e)
            obtain ⟨n, hn, rfl⟩ := List.mem_map.mp hd
            exact ⟨n, hn, of_decide_eq_true hpd⟩
        obtain ⟨q, hq, rfl, hT4⟩ := hR
        try simp only [dIsNv, dRevO, dPar, dPar3, dTryB, bSeq, bIf, bCall, bNil, dAug, iR3, dMod0, xStar, dRepO, dExcA, dTryK, dIsx, lose, loseV, dSeq, dRet, dRetN, dIfS, dTst, dTru, dOp, dVar, dVarK, dC, dChain, dNot, dAnd, dOr, dAndE, dOrE, dNotE, dBoolE, dIf, dFn, dB, dTup, dLst, dO, xNil, xCons, dNext, dSet, dSetO, dRel, relE, dExpr, dCall, dCallO, dCons, dNil, dPurA, dAsg, gdName, gdNil, gdCons, gdTup, dForS, dCut, dCutO, dNoP, dPart, dCatO, dListO, dLc, wipeE, dApp, dIns, dSetIx, dRaise, dRetO, dRetOE, dCount, dRev, iL, iT, iS, iR1, iR2, iEL, iET, iZ, dYes, s_tb, s_tn, s_ti, s_tl, s_tt, s_dd, s_do, s_ll, s_lt, s_ls, s_ul, s_ut, s_isStr_none, s_isStr_bool, s_isStr_int, s_isStr_str, s_isStr_list, s_isStr_tuple, s_isTup_none, s_isTup_bool, s_isTup_int, s_isTup_str, s_isTup_list, s_isTup_tuple, s_isLst_none, s_isLst_bool, s_isLst_int, s_isLst_str, s_isLst_list, s_isLst_tuple, s_isInt_none, s_isInt_bool, s_isInt_int, s_isInt_str, s_isInt_list, s_isInt_tuple, s_isBool_none, s_isBool_bool, s_isBool_int, s_isBool_str, s_isBool_list, s_isBool_tuple, s_isN_none, s_isN_bool, s_isN_int, s_isN_str, s_isN_list, s_isN_tuple, s_is, s_isnt, s_xl, s_xt, s_xs, s_cl, s_ct, s_cs, s_add, s_sub, s_lti, s_lei, s_gti, s_gei, s_min, s_max, s_neg, s_abs, s_os, at0, at1, at2, eqD_int, neD_int, List.getElem?_cons_zero, List.getElem?_cons_succ, List.set_cons_zero, List.set_cons_succ, List.map_cons, List.map_nil, Bool.false_eq_true, Bool.not_true, Bool.not_false, ite_true, ite_false, if_true, if_false, true_and, and_true]
        refine ⟨by rw [List.length_map]; omega, hK _ _ ⟨.d (.int (i : Nat)), .d (.list (q.map PyData.int)), P ++ [p], A ++ [q], ?_, by rw [List.length_append, lP]; rfl, by rw [List.length_append, lA]; rfl, fun x hx => ?_, fun x hx => ?_, by omega⟩⟩
        · rw [← app_map intsL A]
          rfl
        · rcases List.mem_append.mp hx with hx | hx
          · exact hP x hx
          · rw [List.mem_singleton.mp hx]
            exact hp
        · rcases List.mem_append.mp hx with hx | hx
          · exact hA x hx
          · rw [List.mem_singleton.mp hx]
            exact hq
      · obtain ⟨a, b, P, A, rfl, lP, lA, hP, hA, hT'⟩ := hI
        rw [List.length_range] at lP lA hT'
        try simp only [dIsNv, dRevO, dPar, dPar3, dTryB, bSeq, bIf, bCall, bNil, dAug, iR3, dMod0, xStar, dRepO, dExcA, dTryK, dIsx, lose, loseV, dSeq, dRet, dRetN, dIfS, dTst, dTru, dOp, dVar, dVarK, dC, dChain, dNot, dAnd, dOr, dAndE, dOrE, dNotE, dBoolE, dIf, dFn, dB, dTup, dLst, dO, xNil, xCons, dNext, dSet, dSetO, dRel, relE, dExpr, dCall, dCallO, dCons, dNil, dPurA, dAsg, gdName, gdNil, gdCons, gdTup, dForS, dCut, dCutO, dNoP, dPart, dCatO, dListO, dLc, wipeE, dApp, dIns, dSetIx, dRaise, dRetO, dRetOE, dCount, dRev, iL, iT, iS, iR1, iR2, iEL, iET, iZ, dYes, s_tb, s_tn, s_ti, s_tl, s_tt, s_dd, s_do, s_ll, s_lt, s_ls, s_ul, s_ut, s_isStr_none, s_isStr_bool, s_isStr_int, s_isStr_str, s_isStr_list, s_isStr_tuple, s_isTup_none, s_isTup_bool, s_isTup_int, s_isTup_str, s_isTup_list, s_isTup_tuple, s_isLst_none, s_isLst_bool, s_isLst_int, s_isLst_str, s_isLst_list, s_isLst_tuple, s_isInt_none, s_isInt_bool, s_isInt_int, s_isInt_str, s_isInt_list, s_isInt_tuple, s_isBool_none, s_isBool_bool, s_isBool_int, s_isBool_str, s_isBool_list, s_isBool_tuple, s_isN_none, s_isN_bool, s_isN_int, s_isN_str, s_isN_list, s_isN_tuple, s_is, s_isnt, s_xl, s_xt, s_xs, s_cl, s_ct, s_cs, s_add, s_sub, s_lti, s_lei, s_gti, s_gei, s_min, s_max, s_neg, s_abs, s_os, at0, at1, at2, eqD_int, neD_int, List.getElem?_cons_zero, List.getElem?_cons_succ, List.set_cons_zero, List.set_cons_succ, List.map_cons, List.map_nil, Bool.false_eq_true, Bool.not_true, Bool.not_false, ite_true, ite_false, if_true, if_false, true_and, and_true]
        exact ⟨le_dn rfl, h gs P A _ ⟨by omega, by omega, gn, by omega, by omega, by omega, hP, hA⟩ (by omega) (by omega)⟩
    · exact h.elim

end
end Dv
set_option Elab.async false
set_option linter.all false
set_option maxRecDepth 100000
set_option maxHeartbeats 1000000
namespace Dv
open PySem PySem.Spec PyProof.Rows L2
/-- not deep -/
def DL (n : Nat) (ds : List PyData) : Prop := ∀ d ∈ ds, d.depth ≤ n
theorem dl_nil {n : Nat} : DL n [] := fun d hd => by simp at hd
theorem dl_cons {n : Nat} {d : PyData} {ds : List PyData} (h : d.depth ≤ n) (h2 : DL n ds) : DL n (d :: ds) := fun e he => by
  rcases List.mem_cons.mp he with rfl | he
  · exact h
  · exact h2 e he
theorem dl_one {n : Nat} {d : PyData} (h : d.depth ≤ n) : DL n [d] := dl_cons h dl_nil
theorem dl_app {n : Nat} {a b : List PyData} (h : DL n a) (h2 : DL n b) : DL n (a ++ b) := fun e he => (List.mem_append.mp he).elim (h e) (h2 e)
theorem dl_cut {n : Nat} {a : List PyData} {lo hi : Option Int} (h : DL n a) : DL n (cutG a lo hi) := fun e he => h e (cut_sub he)
theorem dl_rep {n k : Nat} {a : List PyData} (h : DL n a) : DL n (List.replicate k a).flatten := fun e he => by
  obtain ⟨l, hl, hel⟩ := List.mem_flatten.mp he
  rw [List.eq_of_mem_replicate hl] at hel
  exact h e hel
theorem DL.mono {n m : Nat} {a : List PyData} (h : DL n a) (l : n ≤ m) : DL m a := fun d hd => Nat.le_trans (h d hd) l
theorem dl_tup {n m : Nat} {a : List PyData} (h : DL n a) (l : n + 1 ≤ m) : (PyData.tuple a).depth ≤ m := Nat.le_trans (depth_le h).2 l
theorem dl_lst {n m : Nat} {a : List PyData} (h : DL n a) (l : n + 1 ≤ m) : (PyData.list a).depth ≤ m := Nat.le_trans (depth_le h).1 l
theorem dp_none {n : Nat} : PyData.none.depth ≤ n + 1 := by simp [PyData.depth]
theorem dp_bool {n : Nat} {b : Bool} : (PyData.bool b).depth ≤ n + 1 := by simp [PyData.depth]
theorem dp_int {n : Nat} {i : Int} : (PyData.int i).depth ≤ n + 1 := by simp [PyData.depth]
theorem dp_str {n : Nat} {z : Str} : (PyData.str z).depth ≤ n + 1 := by simp [PyData.depth]
theorem dl_ints {n : Nat} (ns : List Int) : DL (n + 1) (ns.map PyData.int) := fun d hd => by
  obtain ⟨i, _, rfl⟩ := List.mem_map.mp hd
  exact dp_int
theorem dl_rows {n : Nat} (R : List (List Int)) : DL (n + 2) (R.map intsL) := fun d hd => by
  obtain ⟨r, _, rfl⟩ := List.mem_map.mp hd
  exact dl_lst (dl_ints (n := n) r) (Nat.le_refl _)
theorem dl_names {n : Nat} {gs : List PyData} (h : nameD gs = true) : DL (n + 1) gs := fun d hd => by
  unfold nameD at h
  rw [Bool.and_eq_true, List.all_eq_true] at h
  obtain ⟨z, rfl⟩ := wordS (h.1 d hd)
  exact dp_str
theorem atI_get {α : Type} {xs : List α} {r : Int} (h0 : 0 ≤ r) (h1 : r < xs.length) : ∃ x, atI xs r = some x ∧ x ∈ xs := at_draw h0 h1
theorem dl_tupS {n : Nat} {a : List PyData} (h : DL n a) : (PyData.tuple a).depth ≤ n + 1 := dl_tup h (Nat.le_refl _)
theorem dl_lstS {n : Nat} {a : List PyData} (h : DL n a) : (PyData.list a).depth ≤ n + 1 := dl_lst h (Nat.le_refl _)
theorem som_add {som X : List PyData} {T : Nat} {Q : PyData → Nat → Prop} {n m k : Nat} (h : DL n som) (hl : som.length ≤ m) (h2 : DL n X) (h3 : X.length ≤ k) (hm : m + k ≤ 1000) (q : ∀ s, DL n s → som.length ≤ s.length → s.length ≤ m + k → Q (.list s) T) : optQ (addD (.list som) (.list X)) T Q := optQ_of (addL (by omega)) (q _ (dl_app h h2) (by rw [List.length_append]; omega) (by rw [List.length_append]; omega))
theorem rep_len {k : Nat} {a : List PyData} : (List.replicate k a).flatten.length = k * a.length := by
  induction k with
  | zero => simp
  | succ n ih => rw [List.replicate_succ, List.flatten_cons, List.length_append, ih, Nat.succ_mul, Nat.add_comm]

abbrev s_Lpick : Stmt := topS 38
abbrev n_Lpick : List Str := ["_law_purse", "_law_some"]
theorem sc_Lpick : FnScope n_Lpick ["_law_purse", "_law_some"] (defScope s_Lpick) := ⟨rfl, rfl, rfl, by decide +kernel, rfl, by decide +kernel, by decide +kernel⟩
def G__law_pick : DSp := fun as T Q _ => match as with
  | [.pur, .d (.list xs)] => 1 ≤ xs.length ∧ xs.length ≤ 1000 ∧ T ≤ 1000000000 ∧ ∀ y ∈ xs, Q (.d y) (T + 1)
  | _ => False
section
variable {P : Program} {w : World} {K : PySem.W.Frag} {mg : Str → Option Value} {base : Heap}
theorem ok_Lpick {f : Addr} {fd : FuncData} {k : Nat} {tb : List Addr} (F : Fun K "_law_pick" "_law_pick" s_Lpick f fd) (A__law_draw : AtD P w K mg base k tb "_law_draw" ["_law_purse", "_law_out_of"] (G__law_draw)) (m_len : mg "len" = none) : FnOk P w K mg base (L2.CX P w) (k + 1) f fd ["_law_purse", "_law_some"] (spF K tb (G__law_pick)) := by
  refine fnd F sc_Lpick (fun as T Q E h => ?_) (fun cdv A outer s H E hr => ⟨_, (pssd_one (psd_ret (pd_ix (pk_var (pv 1)) (PD.k (pd_call A__law_draw hr (by rfl) (pad_pur (pv 0) (pad_cons (pd_b1 cad_len (by rfl) m_len PySem.boot_len (pk_var (pv 1))) pad_nil)))) (fun _ _ => rfl)))), fun as T Qh Eh h => ?_⟩)
  · unfold G__law_pick at h
    split at h
    · rfl
    · exact h.elim
  · unfold G__law_pick at h
    split at h
    · rename_i xs
      obtain ⟨h1, h2, h3, h⟩ := h
      rw [show ∀ a0 a1, startE n_Lpick [a0, a1] = [a0, a1] from fun _ _ => rfl]
      try simp only [dIsNv, dRevO, dPar, dPar3, dTryB, bSeq, bIf, bCall, bNil, dAug, iR3, dMod0, xStar, dRepO, dExcA, dTryK, dIsx, lose, loseV, dSeq, dRet, dRetN, dIfS, dTst, dTru, dOp, dVar, dVarK, dC, dChain, dNot, dAnd, dOr, dAndE, dOrE, dNotE, dBoolE, dIf, dFn, dB, dTup, dLst, dO, xNil, xCons, dNext, dSet, dSetO, dRel, relE, dExpr, dCall, dCallO, dCons, dNil, dPurA, dAsg, gdName, gdNil, gdCons, gdTup, dForS, dCut, dCutO, dNoP, dPart, dCatO, dListO, dLc, wipeE, dApp, dIns, dSetIx, dRaise, dRetO, dRetOE, dCount, dRev, iL, iT, iS, iR1, iR2, iEL, iET, iZ, dYes, s_tb, s_tn, s_ti, s_tl, s_tt, s_dd, s_do, s_ll, s_lt, s_ls, s_ul, s_ut, s_isStr_none, s_isStr_bool, s_isStr_int, s_isStr_str, s_isStr_list, s_isStr_tuple, s_isTup_none, s_isTup_bool, s_isTup_int, s_isTup_str, s_isTup_list, s_isTup_tuple, s_isLst_none, s_isLst_bool, s_isLst_int, s_isLst_str, s_isLst_list, s_isLst_tuple, s_isInt_none, s_isInt_bool, s_isInt_int, s_isInt_str, s_isInt_list, s_isInt_tuple, s_isBool_none, s_isBool_bool, s_isBool_int, s_isBool_str, s_isBool_list, s_isBool_tuple, s_isN_none, s_isN_bool, s_isN_int, s_isN_str, s_isN_list, s_isN_tuple, s_is, s_isnt, s_xl, s_xt, s_xs, s_cl, s_ct, s_cs, s_add, s_sub, s_lti, s_lei, s_gti, s_gei, s_min, s_max, s_neg, s_abs, s_os, at0, at1, at2, eqD_int, neD_int, List.getElem?_cons_zero, List.getElem?_cons_succ, List.set_cons_zero, List.set_cons_succ, List.map_cons, List.map_nil, Bool.false_eq_true, Bool.not_true, Bool.not_false, ite_true, ite_false, if_true, if_false, true_and, and_true]
      refine ⟨_, rfl, h3, by omega, by omega, fun r r0 r1 => ?_⟩
      obtain ⟨y, ey, hy⟩ := at_draw r0 r1
      try simp only [dIsNv, dRevO, dPar, dPar3, dTryB, bSeq, bIf, bCall, bNil, dAug, iR3, dMod0, xStar, dRepO, dExcA, dTryK, dIsx, lose, loseV, dSeq, dRet, dRetN, dIfS, dTst, dTru, dOp, dVar, dVarK, dC, dChain, dNot, dAnd, dOr, dAndE, dOrE, dNotE, dBoolE, dIf, dFn, dB, dTup, dLst, dO, xNil, xCons, dNext, dSet, dSetO, dRel, relE, dExpr, dCall, dCallO, dCons, dNil, dPurA, dAsg, gdName, gdNil, gdCons, gdTup, dForS, dCut, dCutO, dNoP, dPart, dCatO, dListO, dLc, wipeE, dApp, dIns, dSetIx, dRaise, dRetO, dRetOE, dCount, dRev, iL, iT, iS, iR1, iR2, iEL, iET, iZ, dYes, s_tb, s_tn, s_ti, s_tl, s_tt, s_dd, s_do, s_ll, s_lt, s_ls, s_ul, s_ut, s_isStr_none, s_isStr_bool, s_isStr_int, s_isStr_str, s_isStr_list, s_isStr_tuple, s_isTup_none, s_isTup_bool, s_isTup_int, s_isTup_str, s_isTup_list, s_isTup_tuple, s_isLst_none, s_isLst_bool, s_isLst_int, s_isLst_str, s_isLst_list, s_isLst_tuple, s_isInt_none, s_isInt_bool, s_isInt_int, s_isInt_str, s_isInt_list, s_isInt_tuple, s_isBool_none, s_isBool_bool, s_isBool_int, s_isBool_str, s_isBool_list, s_isBool_tuple, s_isN_none, s_isN_bool, s_isN_int, s_isN_str, s_isN_list, s_isN_tuple, s_is, s_isnt, s_xl, s_xt, s_xs, s_cl, s_ct, s_cs, s_add, s_sub, s_lti, s_lei, s_gti, s_gei, s_min, s_max, s_neg, s_abs, s_os, at0, at1, at2, eqD_int, neD_int, List.getElem?_cons_zero, List.getElem?_cons_succ, List.set_cons_zero, List.set_cons_succ, List.map_cons, List.map_nil, Bool.false_eq_true, Bool.not_true, Bool.not_false, ite_true, ite_false, if_true, if_false, true_and, and_true]
      rw [ey]
      exact h y hy
    · exact h.elim

end
abbrev s_Lbent : Stmt := topS 47
abbrev n_Lbent : List Str := ["_law_purse", "_law_market", "_law_goods_here", "_law_prices_here", "_law_amounts_here", "_law_which", "_law_rows", "_law_k", "_law_at", "_law_odd", "_law_row", "_law_changed_here", "_law_some", "_law_other", "_law_twice", "_law_side", "_law_bent_row"]
theorem sc_Lbent : FnScope n_Lbent ["_law_purse", "_law_market"] (defScope s_Lbent) := ⟨rfl, rfl, rfl, by decide +kernel, rfl, by decide +kernel, by decide +kernel⟩
def G__law_bent : DSp := fun as T Q _ => match as with
  | [.pur, .d m] => ∃ gs P A, m = mkD gs P A ∧ GoodM gs P A ∧ T ≤ 999000000 ∧ ∀ x T', x.depth ≤ 60 → T' ≤ T + 20 → Q (.d x) T'
  | _ => False
section
variable {P : Program} {w : World} {K : PySem.W.Frag} {mg : Str → Option Value} {base : Heap}
theorem ok_Lbent {f : Addr} {fd : FuncData} {k : Nat} {tb : List Addr} (F : Fun K "_law_bent" "_law_bent" s_Lbent f fd) (A__law_draw : AtD P w K mg base k tb "_law_draw" ["_law_purse", "_law_out_of"] (G__law_draw)) (A__law_pick : AtD P w K mg base k tb "_law_pick" ["_law_purse", "_law_some"] (G__law_pick)) (m_len : mg "len" = none) (m_list : mg "list" = none) (m_range : mg "range" = none) (m_tuple : mg "tuple" = none) : FnOk P w K mg base (L2.CX P w) (k + 1) f fd ["_law_purse", "_law_market"] (spF K tb (G__law_bent)) := by
  refine fnd F sc_Lbent (fun as T Q E h => ?_) (fun cdv A outer s H E hr => ⟨_, (pssd_cons (psd_asg (pd_var (pv 1)) (pgd_tup (n := 3) rfl (pgsd_cons (pgd_name (i := 2) sc_Lbent.nd rfl (.inl rfl)) (pgsd_cons (pgd_name (i := 3) sc_Lbent.nd rfl (.inl rfl)) (pgsd_cons (pgd_name (i := 4) sc_Lbent.nd rfl (.inl rfl)) pgsd_nil)))))
      (pssd_cons (psd_set (i := 5) sc_Lbent.nd rfl (.inl rfl) (pd_call A__law_draw hr (by rfl) (pad_pur (pv 0) (pad_cons pd_int pad_nil))))
      (pssd_cons (psd_set (i := 6) sc_Lbent.nd rfl (.inl rfl) (pd_ix (PD.k (PDo.d (pdo_lst (pxd_cons (pd_var (pv 3)) (pxd_cons (pd_var (pv 4)) pxd_nil))))) (pk_var (pv 5)) (fun _ _ => rfl)))
      (pssd_cons (psd_set (i := 7) sc_Lbent.nd rfl (.inl rfl) (pd_call A__law_draw hr (by rfl) (pad_pur (pv 0) (pad_cons (pd_b1 cad_len (by rfl) m_len PySem.boot_len (pk_var (pv 6))) pad_nil))))
      (pssd_cons (psd_set (i := 8) sc_Lbent.nd rfl (.inl rfl) (pd_call A__law_draw hr (by rfl) (pad_pur (pv 0) (pad_cons (pd_b1 cad_len (by rfl) m_len PySem.boot_len (pk_var (pv 2))) pad_nil))))
      (pssd_cons (psd_set (i := 9) sc_Lbent.nd rfl (.inl rfl) (PDo.d (pdo_lst (pxd_cons pd_int (pxd_cons (pd_neg (PD.k pd_int)) (pxd_cons (pd_op opd_add (PD.k (pd_op opd_pow (PD.k pd_int) (PD.k pd_int))) (PD.k pd_int)) (pxd_cons pd_bl (pxd_cons pd_non (pxd_cons pd_str (pxd_cons pd_int (pxd_cons (PDo.d (pdo_lst (pxd_cons pd_int pxd_nil))) pxd_nil)))))))))))
      (pssd_cons (psd_set (i := 10) sc_Lbent.nd rfl (.inl rfl) (pd_op opd_add (PD.k (pd_op opd_add (PD.k (pd_cut (PD.k (pd_ix (pk_var (pv 6)) (pk_var (pv 7)) (fun _ _ => rfl))) pod_none (pod_some (pd_var (pv 8))))) (PD.k (PDo.d (pdo_lst (pxd_cons (pd_call A__law_pick hr (by rfl) (pad_pur (pv 0) (pad_cons (pd_var (pv 9)) pad_nil))) pxd_nil)))))) (PD.k (pd_cut (PD.k (pd_ix (pk_var (pv 6)) (pk_var (pv 7)) (fun _ _ => rfl))) (pod_some (pd_op opd_add (pk_var (pv 8)) (PD.k pd_int))) pod_none))))
      (pssd_cons (psd_set (i := 10) sc_Lbent.nd rfl (.inl rfl) (pd_call A__law_pick hr (by rfl) (pad_pur (pv 0) (pad_cons (PDo.d (pdo_lst (pxd_cons (pd_var (pv 10)) (pxd_cons (pd_var (pv 10)) (pxd_cons (pd_var (pv 10)) (pxd_cons (pd_cut (pk_var (pv 10)) (pod_some pd_int) pod_none) (pxd_cons (pd_op opd_add (pk_var (pv 10)) (PD.k (PDo.d (pdo_lst (pxd_cons pd_int pxd_nil))))) (pxd_cons (pd_t1 cad_tuple (by rfl) m_tuple (by decide +kernel) (pk_var (pv 10))) (pxd_cons (pd_op opd_mul (PD.k (PDo.d (pdo_lst (pxd_cons pd_int pxd_nil)))) (PD.k (pd_b1 cad_len (by rfl) m_len PySem.boot_len (pk_var (pv 10))))) (pxd_cons pd_non pxd_nil)))))))))) pad_nil))))
      (pssd_cons (psd_set (i := 11) sc_Lbent.nd rfl (.inl rfl) (pd_op opd_add (PD.k (pd_op opd_add (PD.k (pd_cut (pk_var (pv 6)) pod_none (pod_some (pd_var (pv 7))))) (PD.k (PDo.d (pdo_lst (pxd_cons (pd_var (pv 10)) pxd_nil)))))) (PD.k (pd_cut (pk_var (pv 6)) (pod_some (pd_op opd_add (pk_var (pv 7)) (PD.k pd_int))) pod_none))))
      (pssd_cons (psd_set (i := 12) sc_Lbent.nd rfl (.inl rfl) (pd_op opd_mul (PD.k (PDo.d (pdo_lst (pxd_cons (pd_tup (pxd_cons (pd_var (pv 2)) (pxd_cons (pd_ix (PD.k (PDo.d (pdo_lst (pxd_cons (pd_var (pv 11)) (pxd_cons (pd_var (pv 3)) pxd_nil))))) (pk_var (pv 5)) (fun _ _ => rfl)) (pxd_cons (pd_ix (PD.k (PDo.d (pdo_lst (pxd_cons (pd_var (pv 4)) (pxd_cons (pd_var (pv 11)) pxd_nil))))) (pk_var (pv 5)) (fun _ _ => rfl)) pxd_nil)))) pxd_nil)))) (PD.k pd_int)))
      (pssd_cons (psd_set (i := 13) sc_Lbent.nd rfl (.inl rfl) (pd_call A__law_draw hr (by rfl) (pad_pur (pv 0) (pad_cons (pd_b1 cad_len (by rfl) m_len PySem.boot_len (pk_var (pv 6))) pad_nil))))
      (pssd_cons (psd_setT (i := 14) sc_Lbent.nd rfl (.inl rfl) (ptr_lst (pts_consT (ptr_o (pdo_list (by rfl) m_list (by decide +kernel) (pk_var (pv 3)))) (pts_consT (ptr_o (pdo_list (by rfl) m_list (by decide +kernel) (pk_var (pv 4)))) pts_nilT))))
      (pssd_cons (psd_for PassesOwn.never rfl (pid_range1 (by rfl) m_range pd_int) (PGd.y (pgd_name (i := 15) sc_Lbent.nd rfl (.inl rfl))) (pssd_cons (psd_setO (i := 16) sc_Lbent.nd rfl (.inl rfl) (pdo_list (by rfl) m_list (by decide +kernel) (PD.k (pd_ix (pk_tix (pv 14) (pk_var (pv 15)) (fun _ _ => rfl)) (PD.k (pd_ix (PD.k (PDo.d (pdo_lst (pxd_cons (pd_var (pv 7)) (pxd_cons (pd_var (pv 13)) pxd_nil))))) (pk_var (pv 15)) (fun _ _ => rfl))) (fun _ _ => rfl)))))
      (pssd_cons (psd_setIx (i := 16) (pd_call A__law_pick hr (by rfl) (pad_pur (pv 0) (pad_cons (pd_var (pv 9)) pad_nil))) (pg_sub (pv 16) (pd_var (pv 8)) set_list))
      (pssd_rel 16 (pssd_one (psd_setTIx (i := 14) (pd_var (pv 16)) (pg_sub (pe_ix ix_seq (pv 14) (pk_var (pv 15)) (fun _ _ => rfl)) (pd_ix (PD.k (PDo.d (pdo_lst (pxd_cons (pd_var (pv 7)) (pxd_cons (pd_var (pv 13)) pxd_nil))))) (pk_var (pv 15)) (fun _ _ => rfl)) set_list)))))))
      (pssd_relT 14 (pssd_cons (psd_set (i := 12) sc_Lbent.nd rfl (.inl rfl) (pd_op opd_add (pk_var (pv 12)) (PD.k (pd_op opd_mul (PD.k (PDo.d (pdo_lst (pxd_cons (pd_tup (pxd_cons (pd_var (pv 2)) (pxd_cons (pd_ix (pk_var (pv 14)) (PD.k pd_int) (fun _ _ => rfl)) (pxd_cons (pd_ix (pk_var (pv 14)) (PD.k pd_int) (fun _ _ => rfl)) pxd_nil)))) pxd_nil)))) (PD.k pd_int)))))
      (pssd_cons (psd_set (i := 12) sc_Lbent.nd rfl (.inl rfl) (pd_op opd_add (pk_var (pv 12)) (PD.k (PDo.d (pdo_lst (pxd_cons (pd_tup (pxd_cons (pd_var (pv 2)) (pxd_cons (pd_cut (PD.k (pd_op opd_mul (pk_var (pv 3)) (PD.k pd_int))) pod_none (pod_some pd_int)) (pxd_cons (pd_cut (PD.k (pd_op opd_mul (pk_var (pv 4)) (PD.k pd_int))) pod_none (pod_some pd_int)) pxd_nil)))) pxd_nil))))))
      (pssd_cons (psd_set (i := 12) sc_Lbent.nd rfl (.inl rfl) (pd_op opd_add (pk_var (pv 12)) (PD.k (PDo.d (pdo_lst (pxd_cons (pd_tup (pxd_cons (pd_var (pv 2)) (pxd_cons (pd_cut (PD.k (pd_op opd_mul (pk_var (pv 3)) (PD.k pd_int))) pod_none (pod_some pd_int)) (pxd_cons (pd_cut (PD.k (pd_op opd_mul (pk_var (pv 4)) (PD.k pd_int))) pod_none (pod_some pd_int)) pxd_nil)))) pxd_nil))))))
      (pssd_cons (psd_set (i := 12) sc_Lbent.nd rfl (.inl rfl) (pd_op opd_add (pk_var (pv 12)) (PD.k (PDo.d (pdo_lst (pxd_cons pd_non (pxd_cons (pd_tup pxd_nil) (pxd_cons (PDo.d (pdo_list (by rfl) m_list (by decide +kernel) (pk_var (pv 1)))) (pxd_cons (pd_cut (pk_var (pv 1)) pod_none (pod_some pd_int)) (pxd_cons (pd_tup (pxd_cons (PDo.d (pdo_list (by rfl) m_list (by decide +kernel) (pk_var (pv 2)))) (pxd_cons (pd_var (pv 3)) (pxd_cons (pd_var (pv 4)) pxd_nil)))) pxd_nil))))))))))
      (pssd_cons (psd_set (i := 12) sc_Lbent.nd rfl (.inl rfl) (pd_op opd_add (pk_var (pv 12)) (PD.k (PDo.d (pdo_lst (pxd_cons (pd_tup (pxd_cons (pd_cut (pk_var (pv 2)) (pod_some pd_int) pod_none) (pxd_cons (pd_var (pv 3)) (pxd_cons (pd_var (pv 4)) pxd_nil)))) pxd_nil))))))
      (pssd_cons (psd_set (i := 12) sc_Lbent.nd rfl (.inl rfl) (pd_op opd_add (pk_var (pv 12)) (PD.k (PDo.d (pdo_lst (pxd_cons (pd_tup (pxd_cons (pd_op opd_add (pk_var (pv 2)) (PD.k (pd_tup (pxd_cons pd_str pxd_nil)))) (pxd_cons (pd_var (pv 3)) (pxd_cons (pd_var (pv 4)) pxd_nil)))) pxd_nil))))))
      (pssd_cons (psd_set (i := 12) sc_Lbent.nd rfl (.inl rfl) (pd_op opd_add (pk_var (pv 12)) (PD.k (PDo.d (pdo_lst (pxd_cons (pd_tup (pxd_cons (pd_op opd_mul (PD.k (pd_cut (pk_var (pv 2)) pod_none (pod_some pd_int))) (PD.k pd_int)) (pxd_cons (pd_var (pv 3)) (pxd_cons (pd_var (pv 4)) pxd_nil)))) (pxd_cons (pd_tup (pxd_cons (pd_op opd_mul (PD.k (pd_tup (pxd_cons pd_str pxd_nil))) (PD.k pd_int)) (pxd_cons (pd_var (pv 3)) (pxd_cons (pd_var (pv 4)) pxd_nil)))) pxd_nil)))))))
      (pssd_cons (psd_set (i := 12) sc_Lbent.nd rfl (.inl rfl) (pd_op opd_add (pk_var (pv 12)) (PD.k (PDo.d (pdo_lst (pxd_cons (pd_tup (pxd_cons (pd_op opd_add (PD.k (pd_tup (pxd_cons pd_str pxd_nil))) (PD.k (pd_cut (pk_var (pv 2)) (pod_some pd_int) pod_none))) (pxd_cons (pd_var (pv 3)) (pxd_cons (pd_var (pv 4)) pxd_nil)))) (pxd_cons (pd_tup (pxd_cons (pd_var (pv 2)) (pxd_cons (pd_cut (pk_var (pv 3)) (pod_some pd_int) pod_none) (pxd_cons (pd_var (pv 4)) pxd_nil)))) pxd_nil)))))))
      (pssd_cons (psd_set (i := 12) sc_Lbent.nd rfl (.inl rfl) (pd_op opd_add (pk_var (pv 12)) (PD.k (PDo.d (pdo_lst (pxd_cons (pd_tup (pxd_cons (pd_var (pv 2)) (pxd_cons (pd_op opd_mul (pk_var (pv 3)) (PD.k pd_int)) (pxd_cons (pd_op opd_mul (pk_var (pv 4)) (PD.k pd_int)) pxd_nil)))) (pxd_cons (pd_tup (pxd_cons (pd_var (pv 2)) (pxd_cons (PDo.d (pdo_lst pxd_nil)) (pxd_cons (PDo.d (pdo_lst pxd_nil)) pxd_nil)))) pxd_nil)))))))
      (pssd_cons (psd_set (i := 12) sc_Lbent.nd rfl (.inl rfl) (pd_op opd_add (pk_var (pv 12)) (PD.k (PDo.d (pdo_lst (pxd_cons (pd_tup (pxd_cons (pd_var (pv 2)) (pxd_cons (pd_t1 cad_tuple (by rfl) m_tuple (by decide +kernel) (pk_var (pv 3))) (pxd_cons (pd_var (pv 4)) pxd_nil)))) pxd_nil))))))
      (pssd_cons (psd_set (i := 12) sc_Lbent.nd rfl (.inl rfl) (pd_op opd_add (pk_var (pv 12)) (PD.k (PDo.d (pdo_lst (pxd_cons (pd_tup (pxd_cons (pd_op opd_add (PD.k (pd_tup (pxd_cons pd_non pxd_nil))) (PD.k (pd_cut (pk_var (pv 2)) (pod_some pd_int) pod_none))) (pxd_cons (pd_var (pv 3)) (pxd_cons (pd_var (pv 4)) pxd_nil)))) pxd_nil))))))
      (pssd_cons (psd_set (i := 12) sc_Lbent.nd rfl (.inl rfl) (pd_op opd_add (pk_var (pv 12)) (PD.k (PDo.d (pdo_lst (pxd_cons (pd_tup (pxd_cons (pd_op opd_add (PD.k (pd_tup (pxd_cons pd_str pxd_nil))) (PD.k (pd_cut (pk_var (pv 2)) (pod_some pd_int) pod_none))) (pxd_cons (pd_var (pv 3)) (pxd_cons (pd_var (pv 4)) pxd_nil)))) pxd_nil))))))
      (pssd_one (psd_ret (pd_call A__law_pick hr (by rfl) (pad_pur (pv 0) (pad_cons (pd_var (pv 12)) pad_nil))))))))))))))))))))))))))))))), fun as T Qh Eh h => ?_⟩)
  · unfold G__law_bent at h
    split at h
    · rfl
    · exact h.elim
  · unfold G__law_bent at h
    split at h
    · rename_i m
      obtain ⟨gs, P, A, rfl, gm, hT, h⟩ := h
      have g1 := gm.g1
      have g8 := gm.g8
      have l1 := gm.l1
      have l24 := gm.l24
      have la := gm.la
      have dgs : DL 1 gs := dl_names (n := 0) gm.gn
      have dP : DL 2 (P.map intsL) := dl_rows (n := 0) P
      have dA : DL 2 (A.map intsL) := dl_rows (n := 0) A
      have kP : (P.map intsL).length = P.length := List.length_map _
      have kA : (A.map intsL).length = P.length := by rw [List.length_map, la]
      have rP : ∀ r ∈ P.map intsL, ∃ ns : List Int, r = .list (ns.map PyData.int) ∧ ns.length = gs.length := fun r hr => by
        obtain ⟨ns, hns, rfl⟩ := List.mem_map.mp hr
        exact ⟨ns, rfl, (gm.pr ns hns).1⟩
      have rA : ∀ r ∈ A.map intsL, ∃ ns : List Int, r = .list (ns.map PyData.int) ∧ ns.length = gs.length := fun r hr => by
        obtain ⟨ns, hns, rfl⟩ := List.mem_map.mp hr
        exact ⟨ns, rfl, (gm.am ns hns).1⟩
      unfold mkD
      generalize P.map intsL = ps at dP kP rP
      generalize A.map intsL = qs at dA kA rA
      rw [show ∀ a0 a1, startE n_Lbent [a0, a1] = [a0, a1, .no, .no, .no, .no, .no, .no, .no, .no, .no, .no, .no, .no, .no, .no, .no] from fun _ _ => rfl]
      refine dSeq_hide fun g hg => ?_
      try simp only [dIsNv, dRevO, dPar, dPar3, dTryB, bSeq, bIf, bCall, bNil, dAug, iR3, dMod0, xStar, dRepO, dExcA, dTryK, dIsx, lose, loseV, dSeq, dRet, dRetN, dIfS, dTst, dTru, dOp, dVar, dVarK, dC, dChain, dNot, dAnd, dOr, dAndE, dOrE, dNotE, dBoolE, dIf, dFn, dB, dTup, dLst, dO, xNil, xCons, dNext, dSet, dSetO, dRel, relE, dExpr, dCall, dCallO, dCons, dNil, dPurA, dAsg, gdName, gdNil, gdCons, gdTup, dForS, dCut, dCutO, dNoP, dPart, dCatO, dListO, dLc, wipeE, dApp, dIns, dSetIx, dRaise, dRetO, dRetOE, dCount, dRev, iL, iT, iS, iR1, iR2, iEL, iET, iZ, dYes, s_tb, s_tn, s_ti, s_tl, s_tt, s_dd, s_do, s_ll, s_lt, s_ls, s_ul, s_ut, s_isStr_none, s_isStr_bool, s_isStr_int, s_isStr_str, s_isStr_list, s_isStr_tuple, s_isTup_none, s_isTup_bool, s_isTup_int, s_isTup_str, s_isTup_list, s_isTup_tuple, s_isLst_none, s_isLst_bool, s_isLst_int, s_isLst_str, s_isLst_list, s_isLst_tuple, s_isInt_none, s_isInt_bool, s_isInt_int, s_isInt_str, s_isInt_list, s_isInt_tuple, s_isBool_none, s_isBool_bool, s_isBool_int, s_isBool_str, s_isBool_list, s_isBool_tuple, s_isN_none, s_isN_bool, s_isN_int, s_isN_str, s_isN_list, s_isN_tuple, s_is, s_isnt, s_xl, s_xt, s_xs, s_cl, s_ct, s_cs, s_add, s_sub, s_lti, s_lei, s_gti, s_gei, s_min, s_max, s_neg, s_abs, s_os, at0, at1, at2, eqD_int, neD_int, List.getElem?_cons_zero, List.getElem?_cons_succ, List.set_cons_zero, List.set_cons_succ, List.map_cons, List.map_nil, Bool.false_eq_true, Bool.not_true, Bool.not_false, ite_true, ite_false, if_true, if_false, true_and, and_true]
      refine ⟨rfl, ?_⟩
      try simp only [dIsNv, dRevO, dPar, dPar3, dTryB, bSeq, bIf, bCall, bNil, dAug, iR3, dMod0, xStar, dRepO, dExcA, dTryK, dIsx, lose, loseV, dSeq, dRet, dRetN, dIfS, dTst, dTru, dOp, dVar, dVarK, dC, dChain, dNot, dAnd, dOr, dAndE, dOrE, dNotE, dBoolE, dIf, dFn, dB, dTup, dLst, dO, xNil, xCons, dNext, dSet, dSetO, dRel, relE, dExpr, dCall, dCallO, dCons, dNil, dPurA, dAsg, gdName, gdNil, gdCons, gdTup, dForS, dCut, dCutO, dNoP, dPart, dCatO, dListO, dLc, wipeE, dApp, dIns, dSetIx, dRaise, dRetO, dRetOE, dCount, dRev, iL, iT, iS, iR1, iR2, iEL, iET, iZ, dYes, s_tb, s_tn, s_ti, s_tl, s_tt, s_dd, s_do, s_ll, s_lt, s_ls, s_ul, s_ut, s_isStr_none, s_isStr_bool, s_isStr_int, s_isStr_str, s_isStr_list, s_isStr_tuple, s_isTup_none, s_isTup_bool, s_isTup_int, s_isTup_str, s_isTup_list, s_isTup_tuple, s_isLst_none, s_isLst_bool, s_isLst_int, s_isLst_str, s_isLst_list, s_isLst_tuple, s_isInt_none, s_isInt_bool, s_isInt_int, s_isInt_str, s_isInt_list, s_isInt_tuple, s_isBool_none, s_isBool_bool, s_isBool_int, s_isBool_str, s_isBool_list, s_isBool_tuple, s_isN_none, s_isN_bool, s_isN_int, s_isN_str, s_isN_list, s_isN_tuple, s_is, s_isnt, s_xl, s_xt, s_xs, s_cl, s_ct, s_cs, s_add, s_sub, s_lti, s_lei, s_gti, s_gei, s_min, s_max, s_neg, s_abs, s_os, at0, at1, at2, eqD_int, neD_int, List.getElem?_cons_zero, List.getElem?_cons_succ, List.set_cons_zero, List.set_cons_succ, List.map_cons, List.map_nil, Bool.false_eq_true, Bool.not_true, Bool.not_false, ite_true, ite_false, if_true, if_false, true_and, and_true]
      subst hg
      refine dSeq_hide fun g hg => ?_
      try simp only [dIsNv, dRevO, dPar, dPar3, dTryB, bSeq, bIf, bCall, bNil, dAug, iR3, dMod0, xStar, dRepO, dExcA, dTryK, dIsx, lose, loseV, dSeq, dRet, dRetN, dIfS, dTst, dTru, dOp, dVar, dVarK, dC, dChain, dNot, dAnd, dOr, dAndE, dOrE, dNotE, dBoolE, dIf, dFn, dB, dTup, dLst, dO, xNil, xCons, dNext, dSet, dSetO, dRel, relE, dExpr, dCall, dCallO, dCons, dNil, dPurA, dAsg, gdName, gdNil, gdCons, gdTup, dForS, dCut, dCutO, dNoP, dPart, dCatO, dListO, dLc, wipeE, dApp, dIns, dSetIx, dRaise, dRetO, dRetOE, dCount, dRev, iL, iT, iS, iR1, iR2, iEL, iET, iZ, dYes, s_tb, s_tn, s_ti, s_tl, s_tt, s_dd, s_do, s_ll, s_lt, s_ls, s_ul, s_ut, s_isStr_none, s_isStr_bool, s_isStr_int, s_isStr_str, s_isStr_list, s_isStr_tuple, s_isTup_none, s_isTup_bool, s_isTup_int, s_isTup_str, s_isTup_list, s_isTup_tuple, s_isLst_none, s_isLst_bool, s_isLst_int, s_isLst_str, s_isLst_list, s_isLst_tuple, s_isInt_none, s_isInt_bool, s_isInt_int, s_isInt_str, s_isInt_list, s_isInt_tuple, s_isBool_none, s_isBool_bool, s_isBool_int, s_isBool_str, s_isBool_list, s_isBool_tuple, s_isN_none, s_isN_bool, s_isN_int, s_isN_str, s_isN_list, s_isN_tuple, s_is, s_isnt, s_xl, s_xt, s_xs, s_cl, s_ct, s_cs, s_add, s_sub, s_lti, s_lei, s_gti, s_gei, s_min, s_max, s_neg, s_abs, s_os, at0, at1, at2, eqD_int, neD_int, List.getElem?_cons_zero, List.getElem?_cons_succ, List.set_cons_zero, List.set_cons_succ, List.map_cons, List.map_nil, Bool.false_eq_true, Bool.not_true, Bool.not_false, ite_true, ite_false, if_true, if_false, true_and, and_true]
      refine ⟨_, rfl, by omega, by decide, by decide, fun wh w0 w1 => ?_⟩
      try simp only [dIsNv, dRevO, dPar, dPar3, dTryB, bSeq, bIf, bCall, bNil, dAug, iR3, dMod0, xStar, dRepO, dExcA, dTryK, dIsx, lose, loseV, dSeq, dRet, dRetN, dIfS, dTst, dTru, dOp, dVar, dVarK, dC, dChain, dNot, dAnd, dOr, dAndE, dOrE, dNotE, dBoolE, dIf, dFn, dB, dTup, dLst, dO, xNil, xCons, dNext, dSet, dSetO, dRel, relE, dExpr, dCall, dCallO, dCons, dNil, dPurA, dAsg, gdName, gdNil, gdCons, gdTup, dForS, dCut, dCutO, dNoP, dPart, dCatO, dListO, dLc, wipeE, dApp, dIns, dSetIx, dRaise, dRetO, dRetOE, dCount, dRev, iL, iT, iS, iR1, iR2, iEL, iET, iZ, dYes, s_tb, s_tn, s_ti, s_tl, s_tt, s_dd, s_do, s_ll, s_lt, s_ls, s_ul, s_ut, s_isStr_none, s_isStr_bool, s_isStr_int, s_isStr_str, s_isStr_list, s_isStr_tuple, s_isTup_none, s_isTup_bool, s_isTup_int, s_isTup_str, s_isTup_list, s_isTup_tuple, s_isLst_none, s_isLst_bool, s_isLst_int, s_isLst_str, s_isLst_list, s_isLst_tuple, s_isInt_none, s_isInt_bool, s_isInt_int, s_isInt_str, s_isInt_list, s_isInt_tuple, s_isBool_none, s_isBool_bool, s_isBool_int, s_isBool_str, s_isBool_list, s_isBool_tuple, s_isN_none, s_isN_bool, s_isN_int, s_isN_str, s_isN_list, s_isN_tuple, s_is, s_isnt, s_xl, s_xt, s_xs, s_cl, s_ct, s_cs, s_add, s_sub, s_lti, s_lei, s_gti, s_gei, s_min, s_max, s_neg, s_abs, s_os, at0, at1, at2, eqD_int, neD_int, List.getElem?_cons_zero, List.getElem?_cons_succ, List.set_cons_zero, List.set_cons_succ, List.map_cons, List.map_nil, Bool.false_eq_true, Bool.not_true, Bool.not_false, ite_true, ite_false, if_true, if_false, true_and, and_true]
      subst hg
      refine dSeq_hide fun g hg => ?_
      try simp only [dIsNv, dRevO, dPar, dPar3, dTryB, bSeq, bIf, bCall, bNil, dAug, iR3, dMod0, xStar, dRepO, dExcA, dTryK, dIsx, lose, loseV, dSeq, dRet, dRetN, dIfS, dTst, dTru, dOp, dVar, dVarK, dC, dChain, dNot, dAnd, dOr, dAndE, dOrE, dNotE, dBoolE, dIf, dFn, dB, dTup, dLst, dO, xNil, xCons, dNext, dSet, dSetO, dRel, relE, dExpr, dCall, dCallO, dCons, dNil, dPurA, dAsg, gdName, gdNil, gdCons, gdTup, dForS, dCut, dCutO, dNoP, dPart, dCatO, dListO, dLc, wipeE, dApp, dIns, dSetIx, dRaise, dRetO, dRetOE, dCount, dRev, iL, iT, iS, iR1, iR2, iEL, iET, iZ, dYes, s_tb, s_tn, s_ti, s_tl, s_tt, s_dd, s_do, s_ll, s_lt, s_ls, s_ul, s_ut, s_isStr_none, s_isStr_bool, s_isStr_int, s_isStr_str, s_isStr_list, s_isStr_tuple, s_isTup_none, s_isTup_bool, s_isTup_int, s_isTup_str, s_isTup_list, s_isTup_tuple, s_isLst_none, s_isLst_bool, s_isLst_int, s_isLst_str, s_isLst_list, s_isLst_tuple, s_isInt_none, s_isInt_bool, s_isInt_int, s_isInt_str, s_isInt_list, s_isInt_tuple, s_isBool_none, s_isBool_bool, s_isBool_int, s_isBool_str, s_isBool_list, s_isBool_tuple, s_isN_none, s_isN_bool, s_isN_int, s_isN_str, s_isN_list, s_isN_tuple, s_is, s_isnt, s_xl, s_xt, s_xs, s_cl, s_ct, s_cs, s_add, s_sub, s_lti, s_lei, s_gti, s_gei, s_min, s_max, s_neg, s_abs, s_os, at0, at1, at2, eqD_int, neD_int, List.getElem?_cons_zero, List.getElem?_cons_succ, List.set_cons_zero, List.set_cons_succ, List.map_cons, List.map_nil, Bool.false_eq_true, Bool.not_true, Bool.not_false, ite_true, ite_false, if_true, if_false, true_and, and_true]
      refine ⟨le_dn rfl, ?_⟩
      obtain ⟨rows, erow, drw, krw, rrw⟩ : ∃ rows, atI [PyData.list ps, .list qs] wh = some (.list rows) ∧ DL 2 rows ∧ rows.length = P.length ∧ ∀ r ∈ rows, ∃ ns : List Int, r = .list (ns.map PyData.int) ∧ ns.length = gs.length := by
        have hw : wh = 0 ∨ wh = 1 := by omega
        rcases hw with rfl | rfl
        · exact ⟨ps, rfl, dP, kP, rP⟩
        · exact ⟨qs, rfl, dA, kA, rA⟩
      refine optQ_of erow ?_
      subst hg
      refine dSeq_hide fun g hg => ?_
      try simp only [dIsNv, dRevO, dPar, dPar3, dTryB, bSeq, bIf, bCall, bNil, dAug, iR3, dMod0, xStar, dRepO, dExcA, dTryK, dIsx, lose, loseV, dSeq, dRet, dRetN, dIfS, dTst, dTru, dOp, dVar, dVarK, dC, dChain, dNot, dAnd, dOr, dAndE, dOrE, dNotE, dBoolE, dIf, dFn, dB, dTup, dLst, dO, xNil, xCons, dNext, dSet, dSetO, dRel, relE, dExpr, dCall, dCallO, dCons, dNil, dPurA, dAsg, gdName, gdNil, gdCons, gdTup, dForS, dCut, dCutO, dNoP, dPart, dCatO, dListO, dLc, wipeE, dApp, dIns, dSetIx, dRaise, dRetO, dRetOE, dCount, dRev, iL, iT, iS, iR1, iR2, iEL, iET, iZ, dYes, s_tb, s_tn, s_ti, s_tl, s_tt, s_dd, s_do, s_ll, s_lt, s_ls, s_ul, s_ut, s_isStr_none, s_isStr_bool, s_isStr_int, s_isStr_str, s_isStr_list, s_isStr_tuple, s_isTup_none, s_isTup_bool, s_isTup_int, s_isTup_str, s_isTup_list, s_isTup_tuple, s_isLst_none, s_isLst_bool, s_isLst_int, s_isLst_str, s_isLst_list, s_isLst_tuple, s_isInt_none, s_isInt_bool, s_isInt_int, s_isInt_str, s_isInt_list, s_isInt_tuple, s_isBool_none, s_isBool_bool, s_isBool_int, s_isBool_str, s_isBool_list, s_isBool_tuple, s_isN_none, s_isN_bool, s_isN_int, s_isN_str, s_isN_list, s_isN_tuple, s_is, s_isnt, s_xl, s_xt, s_xs, s_cl, s_ct, s_cs, s_add, s_sub, s_lti, s_lei, s_gti, s_gei, s_min, s_max, s_neg, s_abs, s_os, at0, at1, at2, eqD_int, neD_int, List.getElem?_cons_zero, List.getElem?_cons_succ, List.set_cons_zero, List.set_cons_succ, List.map_cons, List.map_nil, Bool.false_eq_true, Bool.not_true, Bool.not_false, ite_true, ite_false, if_true, if_false, true_and, and_true]
      refine ⟨_, rfl, by omega, by omega, by omega, fun k0 k00 k01 => ?_⟩
      obtain ⟨kk, rfl⟩ : ∃ n : Nat, k0 = (n : Int) := ⟨k0.toNat, by omega⟩
      try simp only [dIsNv, dRevO, dPar, dPar3, dTryB, bSeq, bIf, bCall, bNil, dAug, iR3, dMod0, xStar, dRepO, dExcA, dTryK, dIsx, lose, loseV, dSeq, dRet, dRetN, dIfS, dTst, dTru, dOp, dVar, dVarK, dC, dChain, dNot, dAnd, dOr, dAndE, dOrE, dNotE, dBoolE, dIf, dFn, dB, dTup, dLst, dO, xNil, xCons, dNext, dSet, dSetO, dRel, relE, dExpr, dCall, dCallO, dCons, dNil, dPurA, dAsg, gdName, gdNil, gdCons, gdTup, dForS, dCut, dCutO, dNoP, dPart, dCatO, dListO, dLc, wipeE, dApp, dIns, dSetIx, dRaise, dRetO, dRetOE, dCount, dRev, iL, iT, iS, iR1, iR2, iEL, iET, iZ, dYes, s_tb, s_tn, s_ti, s_tl, s_tt, s_dd, s_do, s_ll, s_lt, s_ls, s_ul, s_ut, s_isStr_none, s_isStr_bool, s_isStr_int, s_isStr_str, s_isStr_list, s_isStr_tuple, s_isTup_none, s_isTup_bool, s_isTup_int, s_isTup_str, s_isTup_list, s_isTup_tuple, s_isLst_none, s_isLst_bool, s_isLst_int, s_isLst_str, s_isLst_list, s_isLst_tuple, s_isInt_none, s_isInt_bool, s_isInt_int, s_isInt_str, s_isInt_list, s_isInt_tuple, s_isBool_none, s_isBool_bool, s_isBool_int, s_isBool_str, s_isBool_list, s_isBool_tuple, s_isN_none, s_isN_bool, s_isN_int, s_isN_str, s_isN_list, s_isN_tuple, s_is, s_isnt, s_xl, s_xt, s_xs, s_cl, s_ct, s_cs, s_add, s_sub, s_lti, s_lei, s_gti, s_gei, s_min, s_max, s_neg, s_abs, s_os, at0, at1, at2, eqD_int, neD_int, List.getElem?_cons_zero, List.getElem?_cons_succ, List.set_cons_zero, List.set_cons_succ, List.map_cons, List.map_nil, Bool.false_eq_true, Bool.not_true, Bool.not_false, ite_true, ite_false, if_true, if_false, true_and, and_true]
      subst hg
      refine dSeq_hide fun g hg => ?_
      try simp only [dIsNv, dRevO, dPar, dPar3, dTryB, bSeq, bIf, bCall, bNil, dAug, iR3, dMod0, xStar, dRepO, dExcA, dTryK, dIsx, lose, loseV, dSeq, dRet, dRetN, dIfS, dTst, dTru, dOp, dVar, dVarK, dC, dChain, dNot, dAnd, dOr, dAndE, dOrE, dNotE, dBoolE, dIf, dFn, dB, dTup, dLst, dO, xNil, xCons, dNext, dSet, dSetO, dRel, relE, dExpr, dCall, dCallO, dCons, dNil, dPurA, dAsg, gdName, gdNil, gdCons, gdTup, dForS, dCut, dCutO, dNoP, dPart, dCatO, dListO, dLc, wipeE, dApp, dIns, dSetIx, dRaise, dRetO, dRetOE, dCount, dRev, iL, iT, iS, iR1, iR2, iEL, iET, iZ, dYes, s_tb, s_tn, s_ti, s_tl, s_tt, s_dd, s_do, s_ll, s_lt, s_ls, s_ul, s_ut, s_isStr_none, s_isStr_bool, s_isStr_int, s_isStr_str, s_isStr_list, s_isStr_tuple, s_isTup_none, s_isTup_bool, s_isTup_int, s_isTup_str, s_isTup_list, s_isTup_tuple, s_isLst_none, s_isLst_bool, s_isLst_int, s_isLst_str, s_isLst_list, s_isLst_tuple, s_isInt_none, s_isInt_bool, s_isInt_int, s_isInt_str, s_isInt_list, s_isInt_tuple, s_isBool_none, s_isBool_bool, s_isBool_int, s_isBool_str, s_isBool_list, s_isBool_tuple, s_isN_none, s_isN_bool, s_isN_int, s_isN_str, s_isN_list, s_isN_tuple, s_is, s_isnt, s_xl, s_xt, s_xs, s_cl, s_ct, s_cs, s_add, s_sub, s_lti, s_lei, s_gti, s_gei, s_min, s_max, s_neg, s_abs, s_os, at0, at1, at2, eqD_int, neD_int, List.getElem?_cons_zero, List.getElem?_cons_succ, List.set_cons_zero, List.set_cons_succ, List.map_cons, List.map_nil, Bool.false_eq_true, Bool.not_true, Bool.not_false, ite_true, ite_false, if_true, if_false, true_and, and_true]
      refine ⟨_, rfl, by omega, by omega, by omega, fun a0 a00 a01 => ?_⟩
      obtain ⟨aa, rfl⟩ : ∃ n : Nat, a0 = (n : Int) := ⟨a0.toNat, by omega⟩
      try simp only [dIsNv, dRevO, dPar, dPar3, dTryB, bSeq, bIf, bCall, bNil, dAug, iR3, dMod0, xStar, dRepO, dExcA, dTryK, dIsx, lose, loseV, dSeq, dRet, dRetN, dIfS, dTst, dTru, dOp, dVar, dVarK, dC, dChain, dNot, dAnd, dOr, dAndE, dOrE, dNotE, dBoolE, dIf, dFn, dB, dTup, dLst, dO, xNil, xCons, dNext, dSet, dSetO, dRel, relE, dExpr, dCall, dCallO, dCons, dNil, dPurA, dAsg, gdName, gdNil, gdCons, gdTup, dForS, dCut, dCutO, dNoP, dPart, dCatO, dListO, dLc, wipeE, dApp, dIns, dSetIx, dRaise, dRetO, dRetOE, dCount, dRev, iL, iT, iS, iR1, iR2, iEL, iET, iZ, dYes, s_tb, s_tn, s_ti, s_tl, s_tt, s_dd, s_do, s_ll, s_lt, s_ls, s_ul, s_ut, s_isStr_none, s_isStr_bool, s_isStr_int, s_isStr_str, s_isStr_list, s_isStr_tuple, s_isTup_none, s_isTup_bool, s_isTup_int, s_isTup_str, s_isTup_list, s_isTup_tuple, s_isLst_none, s_isLst_bool, s_isLst_int, s_isLst_str, s_isLst_list, s_isLst_tuple, s_isInt_none, s_isInt_bool, s_isInt_int, s_isInt_str, s_isInt_list, s_isInt_tuple, s_isBool_none, s_isBool_bool, s_isBool_int, s_isBool_str, s_isBool_list, s_isBool_tuple, s_isN_none, s_isN_bool, s_isN_int, s_isN_str, s_isN_list, s_isN_tuple, s_is, s_isnt, s_xl, s_xt, s_xs, s_cl, s_ct, s_cs, s_add, s_sub, s_lti, s_lei, s_gti, s_gei, s_min, s_max, s_neg, s_abs, s_os, at0, at1, at2, eqD_int, neD_int, List.getElem?_cons_zero, List.getElem?_cons_succ, List.set_cons_zero, List.set_cons_succ, List.map_cons, List.map_nil, Bool.false_eq_true, Bool.not_true, Bool.not_false, ite_true, ite_false, if_true, if_false, true_and, and_true]
      subst hg
      refine dSeq_hide fun g hg => ?_
      try simp only [dIsNv, dRevO, dPar, dPar3, dTryB, bSeq, bIf, bCall, bNil, dAug, iR3, dMod0, xStar, dRepO, dExcA, dTryK, dIsx, lose, loseV, dSeq, dRet, dRetN, dIfS, dTst, dTru, dOp, dVar, dVarK, dC, dChain, dNot, dAnd, dOr, dAndE, dOrE, dNotE, dBoolE, dIf, dFn, dB, dTup, dLst, dO, xNil, xCons, dNext, dSet, dSetO, dRel, relE, dExpr, dCall, dCallO, dCons, dNil, dPurA, dAsg, gdName, gdNil, gdCons, gdTup, dForS, dCut, dCutO, dNoP, dPart, dCatO, dListO, dLc, wipeE, dApp, dIns, dSetIx, dRaise, dRetO, dRetOE, dCount, dRev, iL, iT, iS, iR1, iR2, iEL, iET, iZ, dYes, s_tb, s_tn, s_ti, s_tl, s_tt, s_dd, s_do, s_ll, s_lt, s_ls, s_ul, s_ut, s_isStr_none, s_isStr_bool, s_isStr_int, s_isStr_str, s_isStr_list, s_isStr_tuple, s_isTup_none, s_isTup_bool, s_isTup_int, s_isTup_str, s_isTup_list, s_isTup_tuple, s_isLst_none, s_isLst_bool, s_isLst_int, s_isLst_str, s_isLst_list, s_isLst_tuple, s_isInt_none, s_isInt_bool, s_isInt_int, s_isInt_str, s_isInt_list, s_isInt_tuple, s_isBool_none, s_isBool_bool, s_isBool_int, s_isBool_str, s_isBool_list, s_isBool_tuple, s_isN_none, s_isN_bool, s_isN_int, s_isN_str, s_isN_list, s_isN_tuple, s_is, s_isnt, s_xl, s_xt, s_xs, s_cl, s_ct, s_cs, s_add, s_sub, s_lti, s_lei, s_gti, s_gei, s_min, s_max, s_neg, s_abs, s_os, at0, at1, at2, eqD_int, neD_int, List.getElem?_cons_zero, List.getElem?_cons_succ, List.set_cons_zero, List.set_cons_succ, List.map_cons, List.map_nil, Bool.false_eq_true, Bool.not_true, Bool.not_false, ite_true, ite_false, if_true, if_false, true_and, and_true]
      refine ⟨le_dn rfl, le_dn rfl, ?_⟩
      have hod : DL 2 [PyData.int 0, .int (-1), .int (10 ^ Int.toNat 6 + 1), .bool true, .none, .str "1", .int 1, .list [.int 1]] := dl_cons dp_int (dl_cons dp_int (dl_cons dp_int (dl_cons dp_bool (dl_cons dp_none (dl_cons dp_str (dl_cons dp_int (dl_one (dl_lst (dl_one (n := 1) dp_int) (Nat.le_refl _)))))))))
      have lod : [PyData.int 0, .int (-1), .int (10 ^ Int.toNat 6 + 1), .bool true, .none, .str "1", .int 1, .list [.int 1]].length = 8 := rfl
      generalize [PyData.int 0, .int (-1), .int (10 ^ Int.toNat 6 + 1), .bool true, .none, .str "1", .int 1, .list [.int 1]] = odds at hod lod
      subst hg
      refine dSeq_hide fun g hg => ?_
      try simp only [dIsNv, dRevO, dPar, dPar3, dTryB, bSeq, bIf, bCall, bNil, dAug, iR3, dMod0, xStar, dRepO, dExcA, dTryK, dIsx, lose, loseV, dSeq, dRet, dRetN, dIfS, dTst, dTru, dOp, dVar, dVarK, dC, dChain, dNot, dAnd, dOr, dAndE, dOrE, dNotE, dBoolE, dIf, dFn, dB, dTup, dLst, dO, xNil, xCons, dNext, dSet, dSetO, dRel, relE, dExpr, dCall, dCallO, dCons, dNil, dPurA, dAsg, gdName, gdNil, gdCons, gdTup, dForS, dCut, dCutO, dNoP, dPart, dCatO, dListO, dLc, wipeE, dApp, dIns, dSetIx, dRaise, dRetO, dRetOE, dCount, dRev, iL, iT, iS, iR1, iR2, iEL, iET, iZ, dYes, s_tb, s_tn, s_ti, s_tl, s_tt, s_dd, s_do, s_ll, s_lt, s_ls, s_ul, s_ut, s_isStr_none, s_isStr_bool, s_isStr_int, s_isStr_str, s_isStr_list, s_isStr_tuple, s_isTup_none, s_isTup_bool, s_isTup_int, s_isTup_str, s_isTup_list, s_isTup_tuple, s_isLst_none, s_isLst_bool, s_isLst_int, s_isLst_str, s_isLst_list, s_isLst_tuple, s_isInt_none, s_isInt_bool, s_isInt_int, s_isInt_str, s_isInt_list, s_isInt_tuple, s_isBool_none, s_isBool_bool, s_isBool_int, s_isBool_str, s_isBool_list, s_isBool_tuple, s_isN_none, s_isN_bool, s_isN_int, s_isN_str, s_isN_list, s_isN_tuple, s_is, s_isnt, s_xl, s_xt, s_xs, s_cl, s_ct, s_cs, s_add, s_sub, s_lti, s_lei, s_gti, s_gei, s_min, s_max, s_neg, s_abs, s_os, at0, at1, at2, eqD_int, neD_int, List.getElem?_cons_zero, List.getElem?_cons_succ, List.set_cons_zero, List.set_cons_succ, List.map_cons, List.map_nil, Bool.false_eq_true, Bool.not_true, Bool.not_false, ite_true, ite_false, if_true, if_false, true_and, and_true]
      obtain ⟨row0, er0, mr0⟩ := at_draw (xs := rows) (r := (kk : Int)) (by omega) (by omega)
      obtain ⟨rns, rfl, lr0⟩ := rrw row0 mr0
      refine optQ_of er0 ?_
      refine optQ_of rfl ?_
      refine ⟨by omega, by omega, by omega, fun od hdm => ?_⟩
      have dr0 : DL 2 (rns.map PyData.int) := dl_ints (n := 1) rns
      have lr1 : (rns.map PyData.int).length = gs.length := by rw [List.length_map, lr0]
      have dod := hod od hdm
      try simp only [dIsNv, dRevO, dPar, dPar3, dTryB, bSeq, bIf, bCall, bNil, dAug, iR3, dMod0, xStar, dRepO, dExcA, dTryK, dIsx, lose, loseV, dSeq, dRet, dRetN, dIfS, dTst, dTru, dOp, dVar, dVarK, dC, dChain, dNot, dAnd, dOr, dAndE, dOrE, dNotE, dBoolE, dIf, dFn, dB, dTup, dLst, dO, xNil, xCons, dNext, dSet, dSetO, dRel, relE, dExpr, dCall, dCallO, dCons, dNil, dPurA, dAsg, gdName, gdNil, gdCons, gdTup, dForS, dCut, dCutO, dNoP, dPart, dCatO, dListO, dLc, wipeE, dApp, dIns, dSetIx, dRaise, dRetO, dRetOE, dCount, dRev, iL, iT, iS, iR1, iR2, iEL, iET, iZ, dYes, s_tb, s_tn, s_ti, s_tl, s_tt, s_dd, s_do, s_ll, s_lt, s_ls, s_ul, s_ut, s_isStr_none, s_isStr_bool, s_isStr_int, s_isStr_str, s_isStr_list, s_isStr_tuple, s_isTup_none, s_isTup_bool, s_isTup_int, s_isTup_str, s_isTup_list, s_isTup_tuple, s_isLst_none, s_isLst_bool, s_isLst_int, s_isLst_str, s_isLst_list, s_isLst_tuple, s_isInt_none, s_isInt_bool, s_isInt_int, s_isInt_str, s_isInt_list, s_isInt_tuple, s_isBool_none, s_isBool_bool, s_isBool_int, s_isBool_str, s_isBool_list, s_isBool_tuple, s_isN_none, s_isN_bool, s_isN_int, s_isN_str, s_isN_list, s_isN_tuple, s_is, s_isnt, s_xl, s_xt, s_xs, s_cl, s_ct, s_cs, s_add, s_sub, s_lti, s_lei, s_gti, s_gei, s_min, s_max, s_neg, s_abs, s_os, at0, at1, at2, eqD_int, neD_int, List.getElem?_cons_zero, List.getElem?_cons_succ, List.set_cons_zero, List.set_cons_succ, List.map_cons, List.map_nil, Bool.false_eq_true, Bool.not_true, Bool.not_false, ite_true, ite_false, if_true, if_false, true_and, and_true]
      generalize rns.map PyData.int = rw0 at dr0 lr1 er0
      have c1 := cut_len rw0 none (some (aa : Int))
      have c2 := cut_len rw0 (some ((aa : Int) + 1)) none
      refine ⟨le_dn rfl, ?_⟩
      refine optQ_of (addL (by simp only [List.length_cons, List.length_nil]; omega)) ?_
      refine optQ_of er0 ?_
      refine optQ_of rfl ?_
      refine optQ_of (addL (by simp only [List.length_cons, List.length_nil, List.length_append]; omega)) ?_
      have drow : DL 2 (cutG rw0 none (some (aa : Int)) ++ [od] ++ cutG rw0 (some ((aa : Int) + 1)) none) := dl_app (dl_app (dl_cut dr0) (dl_one dod)) (dl_cut dr0)
      have lrow : (cutG rw0 none (some (aa : Int)) ++ [od] ++ cutG rw0 (some ((aa : Int) + 1)) none).length ≤ 20 := by simp only [List.length_cons, List.length_nil, List.length_append]; omega
      generalize cutG rw0 none (some (aa : Int)) ++ [od] ++ cutG rw0 (some ((aa : Int) + 1)) none = row1 at drow lrow
      subst hg
      refine dSeq_hide fun g hg => ?_
      try simp only [dIsNv, dRevO, dPar, dPar3, dTryB, bSeq, bIf, bCall, bNil, dAug, iR3, dMod0, xStar, dRepO, dExcA, dTryK, dIsx, lose, loseV, dSeq, dRet, dRetN, dIfS, dTst, dTru, dOp, dVar, dVarK, dC, dChain, dNot, dAnd, dOr, dAndE, dOrE, dNotE, dBoolE, dIf, dFn, dB, dTup, dLst, dO, xNil, xCons, dNext, dSet, dSetO, dRel, relE, dExpr, dCall, dCallO, dCons, dNil, dPurA, dAsg, gdName, gdNil, gdCons, gdTup, dForS, dCut, dCutO, dNoP, dPart, dCatO, dListO, dLc, wipeE, dApp, dIns, dSetIx, dRaise, dRetO, dRetOE, dCount, dRev, iL, iT, iS, iR1, iR2, iEL, iET, iZ, dYes, s_tb, s_tn, s_ti, s_tl, s_tt, s_dd, s_do, s_ll, s_lt, s_ls, s_ul, s_ut, s_isStr_none, s_isStr_bool, s_isStr_int, s_isStr_str, s_isStr_list, s_isStr_tuple, s_isTup_none, s_isTup_bool, s_isTup_int, s_isTup_str, s_isTup_list, s_isTup_tuple, s_isLst_none, s_isLst_bool, s_isLst_int, s_isLst_str, s_isLst_list, s_isLst_tuple, s_isInt_none, s_isInt_bool, s_isInt_int, s_isInt_str, s_isInt_list, s_isInt_tuple, s_isBool_none, s_isBool_bool, s_isBool_int, s_isBool_str, s_isBool_list, s_isBool_tuple, s_isN_none, s_isN_bool, s_isN_int, s_isN_str, s_isN_list, s_isN_tuple, s_is, s_isnt, s_xl, s_xt, s_xs, s_cl, s_ct, s_cs, s_add, s_sub, s_lti, s_lei, s_gti, s_gei, s_min, s_max, s_neg, s_abs, s_os, at0, at1, at2, eqD_int, neD_int, List.getElem?_cons_zero, List.getElem?_cons_succ, List.set_cons_zero, List.set_cons_succ, List.map_cons, List.map_nil, Bool.false_eq_true, Bool.not_true, Bool.not_false, ite_true, ite_false, if_true, if_false, true_and, and_true]
      have h1row : DL 2 [PyData.int 1] := dl_one dp_int
      have h0row : DL 2 [PyData.int 0] := dl_one dp_int
      refine ⟨le_dn rfl, optQ_of (addL (by simp only [List.length_cons, List.length_nil]; omega)) ?_⟩
      refine ⟨le_dn rfl, optQ_of (mulL (by omega) (le_dn rfl)) ?_⟩
      refine ⟨le_dn rfl, le_dn rfl, le_dn rfl, by omega, fun row hrow => ?_⟩
      have d3row : row.depth ≤ 3 := by
        have hall : DL 3 [PyData.list row1, .list row1, .list row1, .list (cutG row1 (some 1) none), .list (row1 ++ [.int 1]), .tuple row1, .list (List.replicate row1.length [PyData.int 0]).flatten, .none] := dl_cons (dl_lst drow (Nat.le_refl _)) (dl_cons (dl_lst drow (Nat.le_refl _)) (dl_cons (dl_lst drow (Nat.le_refl _)) (dl_cons (dl_lst (dl_cut drow) (Nat.le_refl _)) (dl_cons (dl_lst (dl_app drow h1row) (Nat.le_refl _)) (dl_cons (dl_tup drow (Nat.le_refl _)) (dl_cons (dl_lst (dl_rep h0row) (Nat.le_refl _)) (dl_one dp_none)))))))
        exact hall row hrow
      try simp only [dIsNv, dRevO, dPar, dPar3, dTryB, bSeq, bIf, bCall, bNil, dAug, iR3, dMod0, xStar, dRepO, dExcA, dTryK, dIsx, lose, loseV, dSeq, dRet, dRetN, dIfS, dTst, dTru, dOp, dVar, dVarK, dC, dChain, dNot, dAnd, dOr, dAndE, dOrE, dNotE, dBoolE, dIf, dFn, dB, dTup, dLst, dO, xNil, xCons, dNext, dSet, dSetO, dRel, relE, dExpr, dCall, dCallO, dCons, dNil, dPurA, dAsg, gdName, gdNil, gdCons, gdTup, dForS, dCut, dCutO, dNoP, dPart, dCatO, dListO, dLc, wipeE, dApp, dIns, dSetIx, dRaise, dRetO, dRetOE, dCount, dRev, iL, iT, iS, iR1, iR2, iEL, iET, iZ, dYes, s_tb, s_tn, s_ti, s_tl, s_tt, s_dd, s_do, s_ll, s_lt, s_ls, s_ul, s_ut, s_isStr_none, s_isStr_bool, s_isStr_int, s_isStr_str, s_isStr_list, s_isStr_tuple, s_isTup_none, s_isTup_bool, s_isTup_int, s_isTup_str, s_isTup_list, s_isTup_tuple, s_isLst_none, s_isLst_bool, s_isLst_int, s_isLst_str, s_isLst_list, s_isLst_tuple, s_isInt_none, s_isInt_bool, s_isInt_int, s_isInt_str, s_isInt_list, s_isInt_tuple, s_isBool_none, s_isBool_bool, s_isBool_int, s_isBool_str, s_isBool_list, s_isBool_tuple, s_isN_none, s_isN_bool, s_isN_int, s_isN_str, s_isN_list, s_isN_tuple, s_is, s_isnt, s_xl, s_xt, s_xs, s_cl, s_ct, s_cs, s_add, s_sub, s_lti, s_lei, s_gti, s_gei, s_min, s_max, s_neg, s_abs, s_os, at0, at1, at2, eqD_int, neD_int, List.getElem?_cons_zero, List.getElem?_cons_succ, List.set_cons_zero, List.set_cons_succ, List.map_cons, List.map_nil, Bool.false_eq_true, Bool.not_true, Bool.not_false, ite_true, ite_false, if_true, if_false, true_and, and_true]
      clear hrow
      subst hg
      refine dSeq_hide fun g hg => ?_
      try simp only [dIsNv, dRevO, dPar, dPar3, dTryB, bSeq, bIf, bCall, bNil, dAug, iR3, dMod0, xStar, dRepO, dExcA, dTryK, dIsx, lose, loseV, dSeq, dRet, dRetN, dIfS, dTst, dTru, dOp, dVar, dVarK, dC, dChain, dNot, dAnd, dOr, dAndE, dOrE, dNotE, dBoolE, dIf, dFn, dB, dTup, dLst, dO, xNil, xCons, dNext, dSet, dSetO, dRel, relE, dExpr, dCall, dCallO, dCons, dNil, dPurA, dAsg, gdName, gdNil, gdCons, gdTup, dForS, dCut, dCutO, dNoP, dPart, dCatO, dListO, dLc, wipeE, dApp, dIns, dSetIx, dRaise, dRetO, dRetOE, dCount, dRev, iL, iT, iS, iR1, iR2, iEL, iET, iZ, dYes, s_tb, s_tn, s_ti, s_tl, s_tt, s_dd, s_do, s_ll, s_lt, s_ls, s_ul, s_ut, s_isStr_none, s_isStr_bool, s_isStr_int, s_isStr_str, s_isStr_list, s_isStr_tuple, s_isTup_none, s_isTup_bool, s_isTup_int, s_isTup_str, s_isTup_list, s_isTup_tuple, s_isLst_none, s_isLst_bool, s_isLst_int, s_isLst_str, s_isLst_list, s_isLst_tuple, s_isInt_none, s_isInt_bool, s_isInt_int, s_isInt_str, s_isInt_list, s_isInt_tuple, s_isBool_none, s_isBool_bool, s_isBool_int, s_isBool_str, s_isBool_list, s_isBool_tuple, s_isN_none, s_isN_bool, s_isN_int, s_isN_str, s_isN_list, s_isN_tuple, s_is, s_isnt, s_xl, s_xt, s_xs, s_cl, s_ct, s_cs, s_add, s_sub, s_lti, s_lei, s_gti, s_gei, s_min, s_max, s_neg, s_abs, s_os, at0, at1, at2, eqD_int, neD_int, List.getElem?_cons_zero, List.getElem?_cons_succ, List.set_cons_zero, List.set_cons_succ, List.map_cons, List.map_nil, Bool.false_eq_true, Bool.not_true, Bool.not_false, ite_true, ite_false, if_true, if_false, true_and, and_true]
      have c3 := cut_len rows none (some (kk : Int))
      have c4 := cut_len rows (some ((kk : Int) + 1)) none
      refine ⟨le_dn rfl, optQ_of (addL (by simp only [List.length_cons, List.length_nil]; omega)) ?_⟩
      refine optQ_of (addL (by simp only [List.length_cons, List.length_nil, List.length_append]; omega)) ?_
      have dch : DL 3 (cutG rows none (some (kk : Int)) ++ [row] ++ cutG rows (some ((kk : Int) + 1)) none) := dl_app (dl_app (dl_cut (drw.mono (by decide))) (dl_one d3row)) (dl_cut (drw.mono (by decide)))
      generalize cutG rows none (some (kk : Int)) ++ [row] ++ cutG rows (some ((kk : Int) + 1)) none = chg at dch
      subst hg
      refine dSeq_hide fun g hg => ?_
      try simp only [dIsNv, dRevO, dPar, dPar3, dTryB, bSeq, bIf, bCall, bNil, dAug, iR3, dMod0, xStar, dRepO, dExcA, dTryK, dIsx, lose, loseV, dSeq, dRet, dRetN, dIfS, dTst, dTru, dOp, dVar, dVarK, dC, dChain, dNot, dAnd, dOr, dAndE, dOrE, dNotE, dBoolE, dIf, dFn, dB, dTup, dLst, dO, xNil, xCons, dNext, dSet, dSetO, dRel, relE, dExpr, dCall, dCallO, dCons, dNil, dPurA, dAsg, gdName, gdNil, gdCons, gdTup, dForS, dCut, dCutO, dNoP, dPart, dCatO, dListO, dLc, wipeE, dApp, dIns, dSetIx, dRaise, dRetO, dRetOE, dCount, dRev, iL, iT, iS, iR1, iR2, iEL, iET, iZ, dYes, s_tb, s_tn, s_ti, s_tl, s_tt, s_dd, s_do, s_ll, s_lt, s_ls, s_ul, s_ut, s_isStr_none, s_isStr_bool, s_isStr_int, s_isStr_str, s_isStr_list, s_isStr_tuple, s_isTup_none, s_isTup_bool, s_isTup_int, s_isTup_str, s_isTup_list, s_isTup_tuple, s_isLst_none, s_isLst_bool, s_isLst_int, s_isLst_str, s_isLst_list, s_isLst_tuple, s_isInt_none, s_isInt_bool, s_isInt_int, s_isInt_str, s_isInt_list, s_isInt_tuple, s_isBool_none, s_isBool_bool, s_isBool_int, s_isBool_str, s_isBool_list, s_isBool_tuple, s_isN_none, s_isN_bool, s_isN_int, s_isN_str, s_isN_list, s_isN_tuple, s_is, s_isnt, s_xl, s_xt, s_xs, s_cl, s_ct, s_cs, s_add, s_sub, s_lti, s_lei, s_gti, s_gei, s_min, s_max, s_neg, s_abs, s_os, at0, at1, at2, eqD_int, neD_int, List.getElem?_cons_zero, List.getElem?_cons_succ, List.set_cons_zero, List.set_cons_succ, List.map_cons, List.map_nil, Bool.false_eq_true, Bool.not_true, Bool.not_false, ite_true, ite_false, if_true, if_false, true_and, and_true]
      refine ⟨le_dn rfl, optQ_at w0 (by exact w1) fun x1 hx1 => ?_⟩
      have dx1 : x1.depth ≤ 4 := (dl_cons (dl_lst dch (Nat.le_refl _)) (dl_one (dl_lst (dP.mono (by decide : 2 ≤ 3)) (Nat.le_refl _))) : DL 4 _) x1 hx1
      refine ⟨le_dn rfl, optQ_at w0 (by exact w1) fun x2 hx2 => ?_⟩
      have dx2 : x2.depth ≤ 4 := (dl_cons (dl_lst (dA.mono (by decide : 2 ≤ 3)) (Nat.le_refl _)) (dl_one (dl_lst dch (Nat.le_refl _))) : DL 4 _) x2 hx2
      refine ⟨le_dn rfl, le_dn rfl, optQ_of (mulL (k := 9) (by decide) (le_dn rfl)) ?_⟩
      have dgt : ∀ {n : Nat}, (PyData.tuple gs).depth ≤ n + 2 := fun {n} => dl_tup dgs (by omega)
      have dPt : ∀ {n : Nat}, (PyData.list ps).depth ≤ n + 3 := fun {n} => dl_lst dP (by omega)
      have dAt : ∀ {n : Nat}, (PyData.list qs).depth ≤ n + 3 := fun {n} => dl_lst dA (by omega)
      obtain ⟨som, esom, dsom, lsom9⟩ : ∃ som, som = (List.replicate 9 [PyData.tuple [.tuple gs, x1, x2]]).flatten ∧ DL 10 som ∧ som.length = 9 := ⟨_, rfl, dl_rep (dl_one (dl_tup (n := 4) (dl_cons dgt (dl_cons dx1 (dl_one dx2))) (by decide))), by rw [rep_len]; rfl⟩
      have lsom : som.length ≤ 9 := by omega
      rw [← esom]
      clear esom hx1 hx2
      subst hg
      refine dSeq_hide fun g hg => ?_
      try simp only [dIsNv, dRevO, dPar, dPar3, dTryB, bSeq, bIf, bCall, bNil, dAug, iR3, dMod0, xStar, dRepO, dExcA, dTryK, dIsx, lose, loseV, dSeq, dRet, dRetN, dIfS, dTst, dTru, dOp, dVar, dVarK, dC, dChain, dNot, dAnd, dOr, dAndE, dOrE, dNotE, dBoolE, dIf, dFn, dB, dTup, dLst, dO, xNil, xCons, dNext, dSet, dSetO, dRel, relE, dExpr, dCall, dCallO, dCons, dNil, dPurA, dAsg, gdName, gdNil, gdCons, gdTup, dForS, dCut, dCutO, dNoP, dPart, dCatO, dListO, dLc, wipeE, dApp, dIns, dSetIx, dRaise, dRetO, dRetOE, dCount, dRev, iL, iT, iS, iR1, iR2, iEL, iET, iZ, dYes, s_tb, s_tn, s_ti, s_tl, s_tt, s_dd, s_do, s_ll, s_lt, s_ls, s_ul, s_ut, s_isStr_none, s_isStr_bool, s_isStr_int, s_isStr_str, s_isStr_list, s_isStr_tuple, s_isTup_none, s_isTup_bool, s_isTup_int, s_isTup_str, s_isTup_list, s_isTup_tuple, s_isLst_none, s_isLst_bool, s_isLst_int, s_isLst_str, s_isLst_list, s_isLst_tuple, s_isInt_none, s_isInt_bool, s_isInt_int, s_isInt_str, s_isInt_list, s_isInt_tuple, s_isBool_none, s_isBool_bool, s_isBool_int, s_isBool_str, s_isBool_list, s_isBool_tuple, s_isN_none, s_isN_bool, s_isN_int, s_isN_str, s_isN_list, s_isN_tuple, s_is, s_isnt, s_xl, s_xt, s_xs, s_cl, s_ct, s_cs, s_add, s_sub, s_lti, s_lei, s_gti, s_gei, s_min, s_max, s_neg, s_abs, s_os, at0, at1, at2, eqD_int, neD_int, List.getElem?_cons_zero, List.getElem?_cons_succ, List.set_cons_zero, List.set_cons_succ, List.map_cons, List.map_nil, Bool.false_eq_true, Bool.not_true, Bool.not_false, ite_true, ite_false, if_true, if_false, true_and, and_true]
      refine ⟨_, rfl, by omega, by omega, by omega, fun o0 o00 o01 => ?_⟩
      obtain ⟨oo, rfl⟩ : ∃ n : Nat, o0 = (n : Int) := ⟨o0.toNat, by omega⟩
      try simp only [dIsNv, dRevO, dPar, dPar3, dTryB, bSeq, bIf, bCall, bNil, dAug, iR3, dMod0, xStar, dRepO, dExcA, dTryK, dIsx, lose, loseV, dSeq, dRet, dRetN, dIfS, dTst, dTru, dOp, dVar, dVarK, dC, dChain, dNot, dAnd, dOr, dAndE, dOrE, dNotE, dBoolE, dIf, dFn, dB, dTup, dLst, dO, xNil, xCons, dNext, dSet, dSetO, dRel, relE, dExpr, dCall, dCallO, dCons, dNil, dPurA, dAsg, gdName, gdNil, gdCons, gdTup, dForS, dCut, dCutO, dNoP, dPart, dCatO, dListO, dLc, wipeE, dApp, dIns, dSetIx, dRaise, dRetO, dRetOE, dCount, dRev, iL, iT, iS, iR1, iR2, iEL, iET, iZ, dYes, s_tb, s_tn, s_ti, s_tl, s_tt, s_dd, s_do, s_ll, s_lt, s_ls, s_ul, s_ut, s_isStr_none, s_isStr_bool, s_isStr_int, s_isStr_str, s_isStr_list, s_isStr_tuple, s_isTup_none, s_isTup_bool, s_isTup_int, s_isTup_str, s_isTup_list, s_isTup_tuple, s_isLst_none, s_isLst_bool, s_isLst_int, s_isLst_str, s_isLst_list, s_isLst_tuple, s_isInt_none, s_isInt_bool, s_isInt_int, s_isInt_str, s_isInt_list, s_isInt_tuple, s_isBool_none, s_isBool_bool, s_isBool_int, s_isBool_str, s_isBool_list, s_isBool_tuple, s_isN_none, s_isN_bool, s_isN_int, s_isN_str, s_isN_list, s_isN_tuple, s_is, s_isnt, s_xl, s_xt, s_xs, s_cl, s_ct, s_cs, s_add, s_sub, s_lti, s_lei, s_gti, s_gei, s_min, s_max, s_neg, s_abs, s_os, at0, at1, at2, eqD_int, neD_int, List.getElem?_cons_zero, List.getElem?_cons_succ, List.set_cons_zero, List.set_cons_succ, List.map_cons, List.map_nil, Bool.false_eq_true, Bool.not_true, Bool.not_false, ite_true, ite_false, if_true, if_false, true_and, and_true]
      subst hg
      refine dSeq_hide fun g hg => ?_
      try simp only [dIsNv, dRevO, dPar, dPar3, dTryB, bSeq, bIf, bCall, bNil, dAug, iR3, dMod0, xStar, dRepO, dExcA, dTryK, dIsx, lose, loseV, dSeq, dRet, dRetN, dIfS, dTst, dTru, dOp, dVar, dVarK, dC, dChain, dNot, dAnd, dOr, dAndE, dOrE, dNotE, dBoolE, dIf, dFn, dB, dTup, dLst, dO, xNil, xCons, dNext, dSet, dSetO, dRel, relE, dExpr, dCall, dCallO, dCons, dNil, dPurA, dAsg, gdName, gdNil, gdCons, gdTup, dForS, dCut, dCutO, dNoP, dPart, dCatO, dListO, dLc, wipeE, dApp, dIns, dSetIx, dRaise, dRetO, dRetOE, dCount, dRev, iL, iT, iS, iR1, iR2, iEL, iET, iZ, dYes, s_tb, s_tn, s_ti, s_tl, s_tt, s_dd, s_do, s_ll, s_lt, s_ls, s_ul, s_ut, s_isStr_none, s_isStr_bool, s_isStr_int, s_isStr_str, s_isStr_list, s_isStr_tuple, s_isTup_none, s_isTup_bool, s_isTup_int, s_isTup_str, s_isTup_list, s_isTup_tuple, s_isLst_none, s_isLst_bool, s_isLst_int, s_isLst_str, s_isLst_list, s_isLst_tuple, s_isInt_none, s_isInt_bool, s_isInt_int, s_isInt_str, s_isInt_list, s_isInt_tuple, s_isBool_none, s_isBool_bool, s_isBool_int, s_isBool_str, s_isBool_list, s_isBool_tuple, s_isN_none, s_isN_bool, s_isN_int, s_isN_str, s_isN_list, s_isN_tuple, s_is, s_isnt, s_xl, s_xt, s_xs, s_cl, s_ct, s_cs, s_add, s_sub, s_lti, s_lei, s_gti, s_gei, s_min, s_max, s_neg, s_abs, s_os, at0, at1, at2, eqD_int, neD_int, List.getElem?_cons_zero, List.getElem?_cons_succ, List.set_cons_zero, List.set_cons_succ, List.map_cons, List.map_nil, Bool.false_eq_true, Bool.not_true, Bool.not_false, ite_true, ite_false, if_true, if_false, true_and, and_true, dSetT, dAppT, trO, trD, trL, trT, tsCons, tsNil, dReprT, dForT, dTIx, dSetTIx, dRelT, relTE]
      refine ⟨le_dn rfl, ?_⟩
      subst hg
      rw [show ([DV.pur, .d (.tuple [.tuple gs, .list ps, .list qs]), .d (.tuple gs), .d (.list ps), .d (.list qs), .d (.int wh), .d (.list rows), .d (.int kk), .d (.int aa), .d (.list odds), .d row, .d (.list chg), .d (.list som), .d (.int oo), .tr (.l [.l (ps.map Tr.d), .l (qs.map Tr.d)]), .no, .no] : Env') = [DV.pur, .d (.tuple [.tuple gs, .list ps, .list qs]), .d (.tuple gs), .d (.list ps), .d (.list qs), .d (.int wh), .d (.list rows), .d (.int kk), .d (.int aa), .d (.list odds), .d row, .d (.list chg), .d (.list som), .d (.int oo), .tr (.l ([ps, qs].map ownL)), .no, .no] from rfl]
      refine dSeq_hide fun g hg => ?_
      try simp only [dIsNv, dRevO, dPar, dPar3, dTryB, bSeq, bIf, bCall, bNil, dAug, iR3, dMod0, xStar, dRepO, dExcA, dTryK, dIsx, lose, loseV, dSeq, dRet, dRetN, dIfS, dTst, dTru, dOp, dVar, dVarK, dC, dChain, dNot, dAnd, dOr, dAndE, dOrE, dNotE, dBoolE, dIf, dFn, dB, dTup, dLst, dO, xNil, xCons, dNext, dSet, dSetO, dRel, relE, dExpr, dCall, dCallO, dCons, dNil, dPurA, dAsg, gdName, gdNil, gdCons, gdTup, dForS, dCut, dCutO, dNoP, dPart, dCatO, dListO, dLc, wipeE, dApp, dIns, dSetIx, dRaise, dRetO, dRetOE, dCount, dRev, iL, iT, iS, iR1, iR2, iEL, iET, iZ, dYes, s_tb, s_tn, s_ti, s_tl, s_tt, s_dd, s_do, s_ll, s_lt, s_ls, s_ul, s_ut, s_isStr_none, s_isStr_bool, s_isStr_int, s_isStr_str, s_isStr_list, s_isStr_tuple, s_isTup_none, s_isTup_bool, s_isTup_int, s_isTup_str, s_isTup_list, s_isTup_tuple, s_isLst_none, s_isLst_bool, s_isLst_int, s_isLst_str, s_isLst_list, s_isLst_tuple, s_isInt_none, s_isInt_bool, s_isInt_int, s_isInt_str, s_isInt_list, s_isInt_tuple, s_isBool_none, s_isBool_bool, s_isBool_int, s_isBool_str, s_isBool_list, s_isBool_tuple, s_isN_none, s_isN_bool, s_isN_int, s_isN_str, s_isN_list, s_isN_tuple, s_is, s_isnt, s_xl, s_xt, s_xs, s_cl, s_ct, s_cs, s_add, s_sub, s_lti, s_lei, s_gti, s_gei, s_min, s_max, s_neg, s_abs, s_os, at0, at1, at2, eqD_int, neD_int, List.getElem?_cons_zero, List.getElem?_cons_succ, List.set_cons_zero, List.set_cons_succ, List.map_cons, List.map_nil, Bool.false_eq_true, Bool.not_true, Bool.not_false, ite_true, ite_false, if_true, if_false, true_and, and_true, dSetT, dAppT, trO, trD, trL, trT, tsCons, tsNil, dReprT, dForT, dTIx, dSetTIx, dRelT, relTE]
      refine ⟨by decide, ?_⟩
      rw [show rangeD 0 (Int.toNat 2) = (List.range 2).map iN from rangeD_nat]
      refine dFor_map iN (fun i E' T' => ∃ a b c15 c16, E' = [DV.pur, .d (.tuple [.tuple gs, .list ps, .list qs]), .d (.tuple gs), .d (.list ps), .d (.list qs), .d (.int wh), .d (.list rows), .d (.int kk), .d (.int aa), .d (.list odds), .d row, .d (.list chg), .d (.list som), .d (.int oo), .tr (.l ([a, b].map ownL)), c15, c16] ∧ DL 3 a ∧ DL 3 b ∧ a.length = P.length ∧ b.length = P.length ∧ (i = 0 → ∀ r ∈ a, ∃ ns : List Int, r = .list (ns.map PyData.int) ∧ ns.length = gs.length) ∧ (i ≤ 1 → ∀ r ∈ b, ∃ ns : List Int, r = .list (ns.map PyData.int) ∧ ns.length = gs.length) ∧ T' ≤ T + 6 + i) ⟨ps, qs, _, _, rfl, dP.mono (by decide), dA.mono (by decide), kP, kA, fun _ => rP, fun _ => rA, by omega⟩ (fun i i' E' T' K hi hI hK => ?_) (fun E' T' hI => ?_)
      · obtain ⟨a, b, c15, c16, rfl, dl_a, dl_b, ll_a, ll_b, r_a, r_b, hT'⟩ := hI
        have him : i < 2 := (List.getElem?_eq_some_iff.mp hi).1
        rw [List.getElem?_range him] at hi
        cases hi
        obtain ⟨cur, ecur, dcur, lcur, rcur⟩ : ∃ cur, [a, b][i]? = some cur ∧ DL 3 cur ∧ cur.length = P.length ∧ ∀ r ∈ cur, ∃ ns : List Int, r = .list (ns.map PyData.int) ∧ ns.length = gs.length := by
          have hw : i = 0 ∨ i = 1 := by omega
          rcases hw with rfl | rfl
          · exact ⟨a, rfl, dl_a, ll_a, r_a rfl⟩
          · exact ⟨b, rfl, dl_b, ll_b, r_b (Nat.le_refl _)⟩
        obtain ⟨at_, eat, hat⟩ : ∃ at_ : Nat, atI [PyData.int kk, .int oo] (i : Int) = some (.int (at_ : Nat)) ∧ at_ < P.length := by
          have hw : i = 0 ∨ i = 1 := by omega
          rcases hw with rfl | rfl
          · exact ⟨kk, rfl, by omega⟩
          · exact ⟨oo, rfl, by omega⟩
        have hcr : cur[at_]? = some cur[at_] := List.getElem?_eq_getElem (by omega)
        obtain ⟨ns, ens, lns⟩ := rcur cur[at_] (List.getElem_mem (by omega))
        unfold iN
        try simp only [dIsNv, dRevO, dPar, dPar3, dTryB, bSeq, bIf, bCall, bNil, dAug, iR3, dMod0, xStar, dRepO, dExcA, dTryK, dIsx, lose, loseV, dSeq, dRet, dRetN, dIfS, dTst, dTru, dOp, dVar, dVarK, dC, dChain, dNot, dAnd, dOr, dAndE, dOrE, dNotE, dBoolE, dIf, dFn, dB, dTup, dLst, dO, xNil, xCons, dNext, dSet, dSetO, dRel, relE, dExpr, dCall, dCallO, dCons, dNil, dPurA, dAsg, gdName, gdNil, gdCons, gdTup, dForS, dCut, dCutO, dNoP, dPart, dCatO, dListO, dLc, wipeE, dApp, dIns, dSetIx, dRaise, dRetO, dRetOE, dCount, dRev, iL, iT, iS, iR1, iR2, iEL, iET, iZ, dYes, s_tb, s_tn, s_ti, s_tl, s_tt, s_dd, s_do, s_ll, s_lt, s_ls, s_ul, s_ut, s_isStr_none, s_isStr_bool, s_isStr_int, s_isStr_str, s_isStr_list, s_isStr_tuple, s_isTup_none, s_isTup_bool, s_isTup_int, s_isTup_str, s_isTup_list, s_isTup_tuple, s_isLst_none, s_isLst_bool, s_isLst_int, s_isLst_str, s_isLst_list, s_isLst_tuple, s_isInt_none, s_isInt_bool, s_isInt_int, s_isInt_str, s_isInt_list, s_isInt_tuple, s_isBool_none, s_isBool_bool, s_isBool_int, s_isBool_str, s_isBool_list, s_isBool_tuple, s_isN_none, s_isN_bool, s_isN_int, s_isN_str, s_isN_list, s_isN_tuple, s_is, s_isnt, s_xl, s_xt, s_xs, s_cl, s_ct, s_cs, s_add, s_sub, s_lti, s_lei, s_gti, s_gei, s_min, s_max, s_neg, s_abs, s_os, at0, at1, at2, eqD_int, neD_int, List.getElem?_cons_zero, List.getElem?_cons_succ, List.set_cons_zero, List.set_cons_succ, List.map_cons, List.map_nil, Bool.false_eq_true, Bool.not_true, Bool.not_false, ite_true, ite_false, if_true, if_false, true_and, and_true, dSetT, dAppT, trO, trD, trL, trT, tsCons, tsNil, dReprT, dForT, dTIx, dSetTIx, dRelT, relTE]
        refine ⟨[a, b], i, cur, rfl, rfl, ecur, le_dn rfl, ?_⟩
        rw [eat]
        try simp only [dIsNv, dRevO, dPar, dPar3, dTryB, bSeq, bIf, bCall, bNil, dAug, iR3, dMod0, xStar, dRepO, dExcA, dTryK, dIsx, lose, loseV, dSeq, dRet, dRetN, dIfS, dTst, dTru, dOp, dVar, dVarK, dC, dChain, dNot, dAnd, dOr, dAndE, dOrE, dNotE, dBoolE, dIf, dFn, dB, dTup, dLst, dO, xNil, xCons, dNext, dSet, dSetO, dRel, relE, dExpr, dCall, dCallO, dCons, dNil, dPurA, dAsg, gdName, gdNil, gdCons, gdTup, dForS, dCut, dCutO, dNoP, dPart, dCatO, dListO, dLc, wipeE, dApp, dIns, dSetIx, dRaise, dRetO, dRetOE, dCount, dRev, iL, iT, iS, iR1, iR2, iEL, iET, iZ, dYes, s_tb, s_tn, s_ti, s_tl, s_tt, s_dd, s_do, s_ll, s_lt, s_ls, s_ul, s_ut, s_isStr_none, s_isStr_bool, s_isStr_int, s_isStr_str, s_isStr_list, s_isStr_tuple, s_isTup_none, s_isTup_bool, s_isTup_int, s_isTup_str, s_isTup_list, s_isTup_tuple, s_isLst_none, s_isLst_bool, s_isLst_int, s_isLst_str, s_isLst_list, s_isLst_tuple, s_isInt_none, s_isInt_bool, s_isInt_int, s_isInt_str, s_isInt_list, s_isInt_tuple, s_isBool_none, s_isBool_bool, s_isBool_int, s_isBool_str, s_isBool_list, s_isBool_tuple, s_isN_none, s_isN_bool, s_isN_int, s_isN_str, s_isN_list, s_isN_tuple, s_is, s_isnt, s_xl, s_xt, s_xs, s_cl, s_ct, s_cs, s_add, s_sub, s_lti, s_lei, s_gti, s_gei, s_min, s_max, s_neg, s_abs, s_os, at0, at1, at2, eqD_int, neD_int, List.getElem?_cons_zero, List.getElem?_cons_succ, List.set_cons_zero, List.set_cons_succ, List.map_cons, List.map_nil, Bool.false_eq_true, Bool.not_true, Bool.not_false, ite_true, ite_false, if_true, if_false, true_and, and_true, dSetT, dAppT, trO, trD, trL, trT, tsCons, tsNil, dReprT, dForT, dTIx, dSetTIx, dRelT, relTE]
        refine optQ_of (at_nat hcr) ?_
        rw [ens]
        try simp only [dIsNv, dRevO, dPar, dPar3, dTryB, bSeq, bIf, bCall, bNil, dAug, iR3, dMod0, xStar, dRepO, dExcA, dTryK, dIsx, lose, loseV, dSeq, dRet, dRetN, dIfS, dTst, dTru, dOp, dVar, dVarK, dC, dChain, dNot, dAnd, dOr, dAndE, dOrE, dNotE, dBoolE, dIf, dFn, dB, dTup, dLst, dO, xNil, xCons, dNext, dSet, dSetO, dRel, relE, dExpr, dCall, dCallO, dCons, dNil, dPurA, dAsg, gdName, gdNil, gdCons, gdTup, dForS, dCut, dCutO, dNoP, dPart, dCatO, dListO, dLc, wipeE, dApp, dIns, dSetIx, dRaise, dRetO, dRetOE, dCount, dRev, iL, iT, iS, iR1, iR2, iEL, iET, iZ, dYes, s_tb, s_tn, s_ti, s_tl, s_tt, s_dd, s_do, s_ll, s_lt, s_ls, s_ul, s_ut, s_isStr_none, s_isStr_bool, s_isStr_int, s_isStr_str, s_isStr_list, s_isStr_tuple, s_isTup_none, s_isTup_bool, s_isTup_int, s_isTup_str, s_isTup_list, s_isTup_tuple, s_isLst_none, s_isLst_bool, s_isLst_int, s_isLst_str, s_isLst_list, s_isLst_tuple, s_isInt_none, s_isInt_bool, s_isInt_int, s_isInt_str, s_isInt_list, s_isInt_tuple, s_isBool_none, s_isBool_bool, s_isBool_int, s_isBool_str, s_isBool_list, s_isBool_tuple, s_isN_none, s_isN_bool, s_isN_int, s_isN_str, s_isN_list, s_isN_tuple, s_is, s_isnt, s_xl, s_xt, s_xs, s_cl, s_ct, s_cs, s_add, s_sub, s_lti, s_lei, s_gti, s_gei, s_min, s_max, s_neg, s_abs, s_os, at0, at1, at2, eqD_int, neD_int, List.getElem?_cons_zero, List.getElem?_cons_succ, List.set_cons_zero, List.set_cons_succ, List.map_cons, List.map_nil, Bool.false_eq_true, Bool.not_true, Bool.not_false, ite_true, ite_false, if_true, if_false, true_and, and_true, dSetT, dAppT, trO, trD, trL, trT, tsCons, tsNil, dReprT, dForT, dTIx, dSetTIx, dRelT, relTE]
        refine ⟨by omega, by omega, by omega, fun od2 hd2 => ?_⟩
        try simp only [dIsNv, dRevO, dPar, dPar3, dTryB, bSeq, bIf, bCall, bNil, dAug, iR3, dMod0, xStar, dRepO, dExcA, dTryK, dIsx, lose, loseV, dSeq, dRet, dRetN, dIfS, dTst, dTru, dOp, dVar, dVarK, dC, dChain, dNot, dAnd, dOr, dAndE, dOrE, dNotE, dBoolE, dIf, dFn, dB, dTup, dLst, dO, xNil, xCons, dNext, dSet, dSetO, dRel, relE, dExpr, dCall, dCallO, dCons, dNil, dPurA, dAsg, gdName, gdNil, gdCons, gdTup, dForS, dCut, dCutO, dNoP, dPart, dCatO, dListO, dLc, wipeE, dApp, dIns, dSetIx, dRaise, dRetO, dRetOE, dCount, dRev, iL, iT, iS, iR1, iR2, iEL, iET, iZ, dYes, s_tb, s_tn, s_ti, s_tl, s_tt, s_dd, s_do, s_ll, s_lt, s_ls, s_ul, s_ut, s_isStr_none, s_isStr_bool, s_isStr_int, s_isStr_str, s_isStr_list, s_isStr_tuple, s_isTup_none, s_isTup_bool, s_isTup_int, s_isTup_str, s_isTup_list, s_isTup_tuple, s_isLst_none, s_isLst_bool, s_isLst_int, s_isLst_str, s_isLst_list, s_isLst_tuple, s_isInt_none, s_isInt_bool, s_isInt_int, s_isInt_str, s_isInt_list, s_isInt_tuple, s_isBool_none, s_isBool_bool, s_isBool_int, s_isBool_str, s_isBool_list, s_isBool_tuple, s_isN_none, s_isN_bool, s_isN_int, s_isN_str, s_isN_list, s_isN_tuple, s_is, s_isnt, s_xl, s_xt, s_xs, s_cl, s_ct, s_cs, s_add, s_sub, s_lti, s_lei, s_gti, s_gei, s_min, s_max, s_neg, s_abs, s_os, at0, at1, at2, eqD_int, neD_int, List.getElem?_cons_zero, List.getElem?_cons_succ, List.set_cons_zero, List.set_cons_succ, List.map_cons, List.map_nil, Bool.false_eq_true, Bool.not_true, Bool.not_false, ite_true, ite_false, if_true, if_false, true_and, and_true, dSetT, dAppT, trO, trD, trL, trT, tsCons, tsNil, dReprT, dForT, dTIx, dSetTIx, dRelT, relTE]
        rw [Cv.ixN_nat' (by rw [List.length_map]; omega)]
        try simp only [dIsNv, dRevO, dPar, dPar3, dTryB, bSeq, bIf, bCall, bNil, dAug, iR3, dMod0, xStar, dRepO, dExcA, dTryK, dIsx, lose, loseV, dSeq, dRet, dRetN, dIfS, dTst, dTru, dOp, dVar, dVarK, dC, dChain, dNot, dAnd, dOr, dAndE, dOrE, dNotE, dBoolE, dIf, dFn, dB, dTup, dLst, dO, xNil, xCons, dNext, dSet, dSetO, dRel, relE, dExpr, dCall, dCallO, dCons, dNil, dPurA, dAsg, gdName, gdNil, gdCons, gdTup, dForS, dCut, dCutO, dNoP, dPart, dCatO, dListO, dLc, wipeE, dApp, dIns, dSetIx, dRaise, dRetO, dRetOE, dCount, dRev, iL, iT, iS, iR1, iR2, iEL, iET, iZ, dYes, s_tb, s_tn, s_ti, s_tl, s_tt, s_dd, s_do, s_ll, s_lt, s_ls, s_ul, s_ut, s_isStr_none, s_isStr_bool, s_isStr_int, s_isStr_str, s_isStr_list, s_isStr_tuple, s_isTup_none, s_isTup_bool, s_isTup_int, s_isTup_str, s_isTup_list, s_isTup_tuple, s_isLst_none, s_isLst_bool, s_isLst_int, s_isLst_str, s_isLst_list, s_isLst_tuple, s_isInt_none, s_isInt_bool, s_isInt_int, s_isInt_str, s_isInt_list, s_isInt_tuple, s_isBool_none, s_isBool_bool, s_isBool_int, s_isBool_str, s_isBool_list, s_isBool_tuple, s_isN_none, s_isN_bool, s_isN_int, s_isN_str, s_isN_list, s_isN_tuple, s_is, s_isnt, s_xl, s_xt, s_xs, s_cl, s_ct, s_cs, s_add, s_sub, s_lti, s_lei, s_gti, s_gei, s_min, s_max, s_neg, s_abs, s_os, at0, at1, at2, eqD_int, neD_int, List.getElem?_cons_zero, List.getElem?_cons_succ, List.set_cons_zero, List.set_cons_succ, List.map_cons, List.map_nil, Bool.false_eq_true, Bool.not_true, Bool.not_false, ite_true, ite_false, if_true, if_false, true_and, and_true, dSetT, dAppT, trO, trD, trL, trT, tsCons, tsNil, dReprT, dForT, dTIx, dSetTIx, dRelT, relTE]
        refine ⟨[a, b], i, cur, rfl, rfl, ecur, le_dn rfl, ?_⟩
        refine ⟨at_, rfl, by omega, ?_⟩
        have dnew : DL 3 (cur.set at_ (.list ((ns.map PyData.int).set aa od2))) := fun d hd => by
          rcases List.mem_or_eq_of_mem_set hd with hd | rfl
          · exact dcur d hd
          · refine dl_lst (n := 2) (fun e he => ?_) (Nat.le_refl _)
            rcases List.mem_or_eq_of_mem_set he with he | rfl
            · exact dl_ints (n := 1) ns e he
            · exact hod _ hd2
        have lnew : (cur.set at_ (.list ((ns.map PyData.int).set aa od2))).length = P.length := by rw [List.length_set]; exact lcur
        generalize cur.set at_ (.list ((ns.map PyData.int).set aa od2)) = nw at dnew lnew
        have hw : i = 0 ∨ i = 1 := by omega
        rcases hw with rfl | rfl
        · exact hK _ _ ⟨nw, b, _, _, rfl, dnew, dl_b, lnew, ll_b, fun z => absurd z (by decide), fun _ => r_b (by decide), by omega⟩
        · exact hK _ _ ⟨a, nw, _, _, rfl, dl_a, dnew, ll_a, lnew, fun z => absurd z (by decide), fun z => absurd z (by decide), by omega⟩
      obtain ⟨a, b, c15, c16, rfl, dl_a, dl_b, ll_a, ll_b, _, _, hT'⟩ := hI
      rw [List.length_range] at hT'
      subst hg
      simp only [dRelT, relTE, List.getElem?_cons_succ, List.getElem?_cons_zero, List.set_cons_succ, List.set_cons_zero, ownLs_dat]
      refine dSeq_hide fun g hg => ?_
      try simp only [dIsNv, dRevO, dPar, dPar3, dTryB, bSeq, bIf, bCall, bNil, dAug, iR3, dMod0, xStar, dRepO, dExcA, dTryK, dIsx, lose, loseV, dSeq, dRet, dRetN, dIfS, dTst, dTru, dOp, dVar, dVarK, dC, dChain, dNot, dAnd, dOr, dAndE, dOrE, dNotE, dBoolE, dIf, dFn, dB, dTup, dLst, dO, xNil, xCons, dNext, dSet, dSetO, dRel, relE, dExpr, dCall, dCallO, dCons, dNil, dPurA, dAsg, gdName, gdNil, gdCons, gdTup, dForS, dCut, dCutO, dNoP, dPart, dCatO, dListO, dLc, wipeE, dApp, dIns, dSetIx, dRaise, dRetO, dRetOE, dCount, dRev, iL, iT, iS, iR1, iR2, iEL, iET, iZ, dYes, s_tb, s_tn, s_ti, s_tl, s_tt, s_dd, s_do, s_ll, s_lt, s_ls, s_ul, s_ut, s_isStr_none, s_isStr_bool, s_isStr_int, s_isStr_str, s_isStr_list, s_isStr_tuple, s_isTup_none, s_isTup_bool, s_isTup_int, s_isTup_str, s_isTup_list, s_isTup_tuple, s_isLst_none, s_isLst_bool, s_isLst_int, s_isLst_str, s_isLst_list, s_isLst_tuple, s_isInt_none, s_isInt_bool, s_isInt_int, s_isInt_str, s_isInt_list, s_isInt_tuple, s_isBool_none, s_isBool_bool, s_isBool_int, s_isBool_str, s_isBool_list, s_isBool_tuple, s_isN_none, s_isN_bool, s_isN_int, s_isN_str, s_isN_list, s_isN_tuple, s_is, s_isnt, s_xl, s_xt, s_xs, s_cl, s_ct, s_cs, s_add, s_sub, s_lti, s_lei, s_gti, s_gei, s_min, s_max, s_neg, s_abs, s_os, at0, at1, at2, eqD_int, neD_int, List.getElem?_cons_zero, List.getElem?_cons_succ, List.set_cons_zero, List.set_cons_succ, List.map_cons, List.map_nil, Bool.false_eq_true, Bool.not_true, Bool.not_false, ite_true, ite_false, if_true, if_false, true_and, and_true]
      have dgsN : ∀ {n : Nat}, DL (n + 1) gs := fun {n} => dgs.mono (by omega)
      have dPsN : ∀ {n : Nat}, DL (n + 2) ps := fun {n} => dP.mono (by omega)
      have dAsN : ∀ {n : Nat}, DL (n + 2) qs := fun {n} => dA.mono (by omega)
      have daN : ∀ {n : Nat}, DL (n + 3) a := fun {n} => dl_a.mono (by omega)
      have dbN : ∀ {n : Nat}, DL (n + 3) b := fun {n} => dl_b.mono (by omega)
      have nine : 9 ≤ som.length := by omega
      refine ⟨le_dn rfl, ?_⟩
      refine ⟨le_dn rfl, ?_⟩
      refine optQ_of (mulL (k := 2) (by decide) (le_dn rfl)) ?_
      refine som_add (k := 2) dsom lsom (by (repeat' (first | exact dl_nil | exact dp_none | exact dp_str | exact dp_int | exact dgsN | exact dPsN | exact dAsN | exact daN | exact dbN | refine dl_cons ?_ ?_ | refine dl_app ?_ ?_ | refine dl_cut ?_ | refine dl_rep ?_ | refine dl_tupS ?_ | refine dl_lstS ?_))) (le_dn rfl) (by decide) (fun som dsom l90 lsom => ?_)
      subst hg
      refine dSeq_hide fun g hg => ?_
      try simp only [dIsNv, dRevO, dPar, dPar3, dTryB, bSeq, bIf, bCall, bNil, dAug, iR3, dMod0, xStar, dRepO, dExcA, dTryK, dIsx, lose, loseV, dSeq, dRet, dRetN, dIfS, dTst, dTru, dOp, dVar, dVarK, dC, dChain, dNot, dAnd, dOr, dAndE, dOrE, dNotE, dBoolE, dIf, dFn, dB, dTup, dLst, dO, xNil, xCons, dNext, dSet, dSetO, dRel, relE, dExpr, dCall, dCallO, dCons, dNil, dPurA, dAsg, gdName, gdNil, gdCons, gdTup, dForS, dCut, dCutO, dNoP, dPart, dCatO, dListO, dLc, wipeE, dApp, dIns, dSetIx, dRaise, dRetO, dRetOE, dCount, dRev, iL, iT, iS, iR1, iR2, iEL, iET, iZ, dYes, s_tb, s_tn, s_ti, s_tl, s_tt, s_dd, s_do, s_ll, s_lt, s_ls, s_ul, s_ut, s_isStr_none, s_isStr_bool, s_isStr_int, s_isStr_str, s_isStr_list, s_isStr_tuple, s_isTup_none, s_isTup_bool, s_isTup_int, s_isTup_str, s_isTup_list, s_isTup_tuple, s_isLst_none, s_isLst_bool, s_isLst_int, s_isLst_str, s_isLst_list, s_isLst_tuple, s_isInt_none, s_isInt_bool, s_isInt_int, s_isInt_str, s_isInt_list, s_isInt_tuple, s_isBool_none, s_isBool_bool, s_isBool_int, s_isBool_str, s_isBool_list, s_isBool_tuple, s_isN_none, s_isN_bool, s_isN_int, s_isN_str, s_isN_list, s_isN_tuple, s_is, s_isnt, s_xl, s_xt, s_xs, s_cl, s_ct, s_cs, s_add, s_sub, s_lti, s_lei, s_gti, s_gei, s_min, s_max, s_neg, s_abs, s_os, at0, at1, at2, eqD_int, neD_int, List.getElem?_cons_zero, List.getElem?_cons_succ, List.set_cons_zero, List.set_cons_succ, List.map_cons, List.map_nil, Bool.false_eq_true, Bool.not_true, Bool.not_false, ite_true, ite_false, if_true, if_false, true_and, and_true]
      refine optQ_of (mulL (k := 24) (by decide) (by omega)) ?_
      refine optQ_of rfl ?_
      refine optQ_of (mulL (k := 24) (by decide) (by omega)) ?_
      refine optQ_of rfl ?_
      refine ⟨le_dn rfl, ?_⟩
      refine ⟨le_dn rfl, ?_⟩
      refine som_add (k := 1) dsom lsom (by (repeat' (first | exact dl_nil | exact dp_none | exact dp_str | exact dp_int | exact dgsN | exact dPsN | exact dAsN | exact daN | exact dbN | refine dl_cons ?_ ?_ | refine dl_app ?_ ?_ | refine dl_cut ?_ | refine dl_rep ?_ | refine dl_tupS ?_ | refine dl_lstS ?_))) (le_dn rfl) (by decide) (fun som dsom l91 lsom => ?_)
      subst hg
      refine dSeq_hide fun g hg => ?_
      try simp only [dIsNv, dRevO, dPar, dPar3, dTryB, bSeq, bIf, bCall, bNil, dAug, iR3, dMod0, xStar, dRepO, dExcA, dTryK, dIsx, lose, loseV, dSeq, dRet, dRetN, dIfS, dTst, dTru, dOp, dVar, dVarK, dC, dChain, dNot, dAnd, dOr, dAndE, dOrE, dNotE, dBoolE, dIf, dFn, dB, dTup, dLst, dO, xNil, xCons, dNext, dSet, dSetO, dRel, relE, dExpr, dCall, dCallO, dCons, dNil, dPurA, dAsg, gdName, gdNil, gdCons, gdTup, dForS, dCut, dCutO, dNoP, dPart, dCatO, dListO, dLc, wipeE, dApp, dIns, dSetIx, dRaise, dRetO, dRetOE, dCount, dRev, iL, iT, iS, iR1, iR2, iEL, iET, iZ, dYes, s_tb, s_tn, s_ti, s_tl, s_tt, s_dd, s_do, s_ll, s_lt, s_ls, s_ul, s_ut, s_isStr_none, s_isStr_bool, s_isStr_int, s_isStr_str, s_isStr_list, s_isStr_tuple, s_isTup_none, s_isTup_bool, s_isTup_int, s_isTup_str, s_isTup_list, s_isTup_tuple, s_isLst_none, s_isLst_bool, s_isLst_int, s_isLst_str, s_isLst_list, s_isLst_tuple, s_isInt_none, s_isInt_bool, s_isInt_int, s_isInt_str, s_isInt_list, s_isInt_tuple, s_isBool_none, s_isBool_bool, s_isBool_int, s_isBool_str, s_isBool_list, s_isBool_tuple, s_isN_none, s_isN_bool, s_isN_int, s_isN_str, s_isN_list, s_isN_tuple, s_is, s_isnt, s_xl, s_xt, s_xs, s_cl, s_ct, s_cs, s_add, s_sub, s_lti, s_lei, s_gti, s_gei, s_min, s_max, s_neg, s_abs, s_os, at0, at1, at2, eqD_int, neD_int, List.getElem?_cons_zero, List.getElem?_cons_succ, List.set_cons_zero, List.set_cons_succ, List.map_cons, List.map_nil, Bool.false_eq_true, Bool.not_true, Bool.not_false, ite_true, ite_false, if_true, if_false, true_and, and_true]
      refine optQ_of (mulL (k := 25) (by decide) (by omega)) ?_
      refine optQ_of rfl ?_
      refine optQ_of (mulL (k := 25) (by decide) (by omega)) ?_
      refine optQ_of rfl ?_
      refine ⟨le_dn rfl, ?_⟩
      refine ⟨le_dn rfl, ?_⟩
      refine som_add (k := 1) dsom lsom (by (repeat' (first | exact dl_nil | exact dp_none | exact dp_str | exact dp_int | exact dgsN | exact dPsN | exact dAsN | exact daN | exact dbN | refine dl_cons ?_ ?_ | refine dl_app ?_ ?_ | refine dl_cut ?_ | refine dl_rep ?_ | refine dl_tupS ?_ | refine dl_lstS ?_))) (le_dn rfl) (by decide) (fun som dsom l92 lsom => ?_)
      subst hg
      refine dSeq_hide fun g hg => ?_
      try simp only [dIsNv, dRevO, dPar, dPar3, dTryB, bSeq, bIf, bCall, bNil, dAug, iR3, dMod0, xStar, dRepO, dExcA, dTryK, dIsx, lose, loseV, dSeq, dRet, dRetN, dIfS, dTst, dTru, dOp, dVar, dVarK, dC, dChain, dNot, dAnd, dOr, dAndE, dOrE, dNotE, dBoolE, dIf, dFn, dB, dTup, dLst, dO, xNil, xCons, dNext, dSet, dSetO, dRel, relE, dExpr, dCall, dCallO, dCons, dNil, dPurA, dAsg, gdName, gdNil, gdCons, gdTup, dForS, dCut, dCutO, dNoP, dPart, dCatO, dListO, dLc, wipeE, dApp, dIns, dSetIx, dRaise, dRetO, dRetOE, dCount, dRev, iL, iT, iS, iR1, iR2, iEL, iET, iZ, dYes, s_tb, s_tn, s_ti, s_tl, s_tt, s_dd, s_do, s_ll, s_lt, s_ls, s_ul, s_ut, s_isStr_none, s_isStr_bool, s_isStr_int, s_isStr_str, s_isStr_list, s_isStr_tuple, s_isTup_none, s_isTup_bool, s_isTup_int, s_isTup_str, s_isTup_list, s_isTup_tuple, s_isLst_none, s_isLst_bool, s_isLst_int, s_isLst_str, s_isLst_list, s_isLst_tuple, s_isInt_none, s_isInt_bool, s_isInt_int, s_isInt_str, s_isInt_list, s_isInt_tuple, s_isBool_none, s_isBool_bool, s_isBool_int, s_isBool_str, s_isBool_list, s_isBool_tuple, s_isN_none, s_isN_bool, s_isN_int, s_isN_str, s_isN_list, s_isN_tuple, s_is, s_isnt, s_xl, s_xt, s_xs, s_cl, s_ct, s_cs, s_add, s_sub, s_lti, s_lei, s_gti, s_gei, s_min, s_max, s_neg, s_abs, s_os, at0, at1, at2, eqD_int, neD_int, List.getElem?_cons_zero, List.getElem?_cons_succ, List.set_cons_zero, List.set_cons_succ, List.map_cons, List.map_nil, Bool.false_eq_true, Bool.not_true, Bool.not_false, ite_true, ite_false, if_true, if_false, true_and, and_true]
      refine ⟨le_dn rfl, ?_⟩
      refine ⟨le_dn rfl, ?_⟩
      refine ⟨le_dn rfl, ?_⟩
      refine som_add (k := 5) dsom lsom (by (repeat' (first | exact dl_nil | exact dp_none | exact dp_str | exact dp_int | exact dgsN | exact dPsN | exact dAsN | exact daN | exact dbN | refine dl_cons ?_ ?_ | refine dl_app ?_ ?_ | refine dl_cut ?_ | refine dl_rep ?_ | refine dl_tupS ?_ | refine dl_lstS ?_))) (le_dn rfl) (by decide) (fun som dsom l93 lsom => ?_)
      subst hg
      refine dSeq_hide fun g hg => ?_
      try simp only [dIsNv, dRevO, dPar, dPar3, dTryB, bSeq, bIf, bCall, bNil, dAug, iR3, dMod0, xStar, dRepO, dExcA, dTryK, dIsx, lose, loseV, dSeq, dRet, dRetN, dIfS, dTst, dTru, dOp, dVar, dVarK, dC, dChain, dNot, dAnd, dOr, dAndE, dOrE, dNotE, dBoolE, dIf, dFn, dB, dTup, dLst, dO, xNil, xCons, dNext, dSet, dSetO, dRel, relE, dExpr, dCall, dCallO, dCons, dNil, dPurA, dAsg, gdName, gdNil, gdCons, gdTup, dForS, dCut, dCutO, dNoP, dPart, dCatO, dListO, dLc, wipeE, dApp, dIns, dSetIx, dRaise, dRetO, dRetOE, dCount, dRev, iL, iT, iS, iR1, iR2, iEL, iET, iZ, dYes, s_tb, s_tn, s_ti, s_tl, s_tt, s_dd, s_do, s_ll, s_lt, s_ls, s_ul, s_ut, s_isStr_none, s_isStr_bool, s_isStr_int, s_isStr_str, s_isStr_list, s_isStr_tuple, s_isTup_none, s_isTup_bool, s_isTup_int, s_isTup_str, s_isTup_list, s_isTup_tuple, s_isLst_none, s_isLst_bool, s_isLst_int, s_isLst_str, s_isLst_list, s_isLst_tuple, s_isInt_none, s_isInt_bool, s_isInt_int, s_isInt_str, s_isInt_list, s_isInt_tuple, s_isBool_none, s_isBool_bool, s_isBool_int, s_isBool_str, s_isBool_list, s_isBool_tuple, s_isN_none, s_isN_bool, s_isN_int, s_isN_str, s_isN_list, s_isN_tuple, s_is, s_isnt, s_xl, s_xt, s_xs, s_cl, s_ct, s_cs, s_add, s_sub, s_lti, s_lei, s_gti, s_gei, s_min, s_max, s_neg, s_abs, s_os, at0, at1, at2, eqD_int, neD_int, List.getElem?_cons_zero, List.getElem?_cons_succ, List.set_cons_zero, List.set_cons_succ, List.map_cons, List.map_nil, Bool.false_eq_true, Bool.not_true, Bool.not_false, ite_true, ite_false, if_true, if_false, true_and, and_true]
      refine ⟨le_dn rfl, ?_⟩
      refine ⟨le_dn rfl, ?_⟩
      refine som_add (k := 1) dsom lsom (by (repeat' (first | exact dl_nil | exact dp_none | exact dp_str | exact dp_int | exact dgsN | exact dPsN | exact dAsN | exact daN | exact dbN | refine dl_cons ?_ ?_ | refine dl_app ?_ ?_ | refine dl_cut ?_ | refine dl_rep ?_ | refine dl_tupS ?_ | refine dl_lstS ?_))) (le_dn rfl) (by decide) (fun som dsom l94 lsom => ?_)
      subst hg
      refine dSeq_hide fun g hg => ?_
      try simp only [dIsNv, dRevO, dPar, dPar3, dTryB, bSeq, bIf, bCall, bNil, dAug, iR3, dMod0, xStar, dRepO, dExcA, dTryK, dIsx, lose, loseV, dSeq, dRet, dRetN, dIfS, dTst, dTru, dOp, dVar, dVarK, dC, dChain, dNot, dAnd, dOr, dAndE, dOrE, dNotE, dBoolE, dIf, dFn, dB, dTup, dLst, dO, xNil, xCons, dNext, dSet, dSetO, dRel, relE, dExpr, dCall, dCallO, dCons, dNil, dPurA, dAsg, gdName, gdNil, gdCons, gdTup, dForS, dCut, dCutO, dNoP, dPart, dCatO, dListO, dLc, wipeE, dApp, dIns, dSetIx, dRaise, dRetO, dRetOE, dCount, dRev, iL, iT, iS, iR1, iR2, iEL, iET, iZ, dYes, s_tb, s_tn, s_ti, s_tl, s_tt, s_dd, s_do, s_ll, s_lt, s_ls, s_ul, s_ut, s_isStr_none, s_isStr_bool, s_isStr_int, s_isStr_str, s_isStr_list, s_isStr_tuple, s_isTup_none, s_isTup_bool, s_isTup_int, s_isTup_str, s_isTup_list, s_isTup_tuple, s_isLst_none, s_isLst_bool, s_isLst_int, s_isLst_str, s_isLst_list, s_isLst_tuple, s_isInt_none, s_isInt_bool, s_isInt_int, s_isInt_str, s_isInt_list, s_isInt_tuple, s_isBool_none, s_isBool_bool, s_isBool_int, s_isBool_str, s_isBool_list, s_isBool_tuple, s_isN_none, s_isN_bool, s_isN_int, s_isN_str, s_isN_list, s_isN_tuple, s_is, s_isnt, s_xl, s_xt, s_xs, s_cl, s_ct, s_cs, s_add, s_sub, s_lti, s_lei, s_gti, s_gei, s_min, s_max, s_neg, s_abs, s_os, at0, at1, at2, eqD_int, neD_int, List.getElem?_cons_zero, List.getElem?_cons_succ, List.set_cons_zero, List.set_cons_succ, List.map_cons, List.map_nil, Bool.false_eq_true, Bool.not_true, Bool.not_false, ite_true, ite_false, if_true, if_false, true_and, and_true]
      refine ⟨le_dn rfl, ?_⟩
      refine optQ_of (addT (by simp only [List.length_cons, List.length_nil]; omega)) ?_
      refine ⟨le_dn rfl, ?_⟩
      refine ⟨le_dn rfl, ?_⟩
      refine som_add (k := 1) dsom lsom (by (repeat' (first | exact dl_nil | exact dp_none | exact dp_str | exact dp_int | exact dgsN | exact dPsN | exact dAsN | exact daN | exact dbN | refine dl_cons ?_ ?_ | refine dl_app ?_ ?_ | refine dl_cut ?_ | refine dl_rep ?_ | refine dl_tupS ?_ | refine dl_lstS ?_))) (le_dn rfl) (by decide) (fun som dsom l95 lsom => ?_)
      subst hg
      refine dSeq_hide fun g hg => ?_
      try simp only [dIsNv, dRevO, dPar, dPar3, dTryB, bSeq, bIf, bCall, bNil, dAug, iR3, dMod0, xStar, dRepO, dExcA, dTryK, dIsx, lose, loseV, dSeq, dRet, dRetN, dIfS, dTst, dTru, dOp, dVar, dVarK, dC, dChain, dNot, dAnd, dOr, dAndE, dOrE, dNotE, dBoolE, dIf, dFn, dB, dTup, dLst, dO, xNil, xCons, dNext, dSet, dSetO, dRel, relE, dExpr, dCall, dCallO, dCons, dNil, dPurA, dAsg, gdName, gdNil, gdCons, gdTup, dForS, dCut, dCutO, dNoP, dPart, dCatO, dListO, dLc, wipeE, dApp, dIns, dSetIx, dRaise, dRetO, dRetOE, dCount, dRev, iL, iT, iS, iR1, iR2, iEL, iET, iZ, dYes, s_tb, s_tn, s_ti, s_tl, s_tt, s_dd, s_do, s_ll, s_lt, s_ls, s_ul, s_ut, s_isStr_none, s_isStr_bool, s_isStr_int, s_isStr_str, s_isStr_list, s_isStr_tuple, s_isTup_none, s_isTup_bool, s_isTup_int, s_isTup_str, s_isTup_list, s_isTup_tuple, s_isLst_none, s_isLst_bool, s_isLst_int, s_isLst_str, s_isLst_list, s_isLst_tuple, s_isInt_none, s_isInt_bool, s_isInt_int, s_isInt_str, s_isInt_list, s_isInt_tuple, s_isBool_none, s_isBool_bool, s_isBool_int, s_isBool_str, s_isBool_list, s_isBool_tuple, s_isN_none, s_isN_bool, s_isN_int, s_isN_str, s_isN_list, s_isN_tuple, s_is, s_isnt, s_xl, s_xt, s_xs, s_cl, s_ct, s_cs, s_add, s_sub, s_lti, s_lei, s_gti, s_gei, s_min, s_max, s_neg, s_abs, s_os, at0, at1, at2, eqD_int, neD_int, List.getElem?_cons_zero, List.getElem?_cons_succ, List.set_cons_zero, List.set_cons_succ, List.map_cons, List.map_nil, Bool.false_eq_true, Bool.not_true, Bool.not_false, ite_true, ite_false, if_true, if_false, true_and, and_true]
      refine optQ_of (mulT (k := 2) (by decide) (by have := cut_len gs none (some 1); omega)) ?_
      refine ⟨le_dn rfl, ?_⟩
      refine ⟨le_dn rfl, ?_⟩
      refine optQ_of (mulT (k := 9) (by decide) (le_dn rfl)) ?_
      refine ⟨le_dn rfl, ?_⟩
      refine ⟨le_dn rfl, ?_⟩
      refine som_add (k := 2) dsom lsom (by (repeat' (first | exact dl_nil | exact dp_none | exact dp_str | exact dp_int | exact dgsN | exact dPsN | exact dAsN | exact daN | exact dbN | refine dl_cons ?_ ?_ | refine dl_app ?_ ?_ | refine dl_cut ?_ | refine dl_rep ?_ | refine dl_tupS ?_ | refine dl_lstS ?_))) (le_dn rfl) (by decide) (fun som dsom l96 lsom => ?_)
      subst hg
      refine dSeq_hide fun g hg => ?_
      try simp only [dIsNv, dRevO, dPar, dPar3, dTryB, bSeq, bIf, bCall, bNil, dAug, iR3, dMod0, xStar, dRepO, dExcA, dTryK, dIsx, lose, loseV, dSeq, dRet, dRetN, dIfS, dTst, dTru, dOp, dVar, dVarK, dC, dChain, dNot, dAnd, dOr, dAndE, dOrE, dNotE, dBoolE, dIf, dFn, dB, dTup, dLst, dO, xNil, xCons, dNext, dSet, dSetO, dRel, relE, dExpr, dCall, dCallO, dCons, dNil, dPurA, dAsg, gdName, gdNil, gdCons, gdTup, dForS, dCut, dCutO, dNoP, dPart, dCatO, dListO, dLc, wipeE, dApp, dIns, dSetIx, dRaise, dRetO, dRetOE, dCount, dRev, iL, iT, iS, iR1, iR2, iEL, iET, iZ, dYes, s_tb, s_tn, s_ti, s_tl, s_tt, s_dd, s_do, s_ll, s_lt, s_ls, s_ul, s_ut, s_isStr_none, s_isStr_bool, s_isStr_int, s_isStr_str, s_isStr_list, s_isStr_tuple, s_isTup_none, s_isTup_bool, s_isTup_int, s_isTup_str, s_isTup_list, s_isTup_tuple, s_isLst_none, s_isLst_bool, s_isLst_int, s_isLst_str, s_isLst_list, s_isLst_tuple, s_isInt_none, s_isInt_bool, s_isInt_int, s_isInt_str, s_isInt_list, s_isInt_tuple, s_isBool_none, s_isBool_bool, s_isBool_int, s_isBool_str, s_isBool_list, s_isBool_tuple, s_isN_none, s_isN_bool, s_isN_int, s_isN_str, s_isN_list, s_isN_tuple, s_is, s_isnt, s_xl, s_xt, s_xs, s_cl, s_ct, s_cs, s_add, s_sub, s_lti, s_lei, s_gti, s_gei, s_min, s_max, s_neg, s_abs, s_os, at0, at1, at2, eqD_int, neD_int, List.getElem?_cons_zero, List.getElem?_cons_succ, List.set_cons_zero, List.set_cons_succ, List.map_cons, List.map_nil, Bool.false_eq_true, Bool.not_true, Bool.not_false, ite_true, ite_false, if_true, if_false, true_and, and_true]
      refine ⟨le_dn rfl, ?_⟩
      refine optQ_of (addT (by have := cut_len gs (some 1) none; simp only [List.length_cons, List.length_nil]; omega)) ?_
      refine ⟨le_dn rfl, ?_⟩
      refine ⟨le_dn rfl, ?_⟩
      refine ⟨le_dn rfl, ?_⟩
      refine som_add (k := 2) dsom lsom (by (repeat' (first | exact dl_nil | exact dp_none | exact dp_str | exact dp_int | exact dgsN | exact dPsN | exact dAsN | exact daN | exact dbN | refine dl_cons ?_ ?_ | refine dl_app ?_ ?_ | refine dl_cut ?_ | refine dl_rep ?_ | refine dl_tupS ?_ | refine dl_lstS ?_))) (le_dn rfl) (by decide) (fun som dsom l97 lsom => ?_)
      subst hg
      refine dSeq_hide fun g hg => ?_
      try simp only [dIsNv, dRevO, dPar, dPar3, dTryB, bSeq, bIf, bCall, bNil, dAug, iR3, dMod0, xStar, dRepO, dExcA, dTryK, dIsx, lose, loseV, dSeq, dRet, dRetN, dIfS, dTst, dTru, dOp, dVar, dVarK, dC, dChain, dNot, dAnd, dOr, dAndE, dOrE, dNotE, dBoolE, dIf, dFn, dB, dTup, dLst, dO, xNil, xCons, dNext, dSet, dSetO, dRel, relE, dExpr, dCall, dCallO, dCons, dNil, dPurA, dAsg, gdName, gdNil, gdCons, gdTup, dForS, dCut, dCutO, dNoP, dPart, dCatO, dListO, dLc, wipeE, dApp, dIns, dSetIx, dRaise, dRetO, dRetOE, dCount, dRev, iL, iT, iS, iR1, iR2, iEL, iET, iZ, dYes, s_tb, s_tn, s_ti, s_tl, s_tt, s_dd, s_do, s_ll, s_lt, s_ls, s_ul, s_ut, s_isStr_none, s_isStr_bool, s_isStr_int, s_isStr_str, s_isStr_list, s_isStr_tuple, s_isTup_none, s_isTup_bool, s_isTup_int, s_isTup_str, s_isTup_list, s_isTup_tuple, s_isLst_none, s_isLst_bool, s_isLst_int, s_isLst_str, s_isLst_list, s_isLst_tuple, s_isInt_none, s_isInt_bool, s_isInt_int, s_isInt_str, s_isInt_list, s_isInt_tuple, s_isBool_none, s_isBool_bool, s_isBool_int, s_isBool_str, s_isBool_list, s_isBool_tuple, s_isN_none, s_isN_bool, s_isN_int, s_isN_str, s_isN_list, s_isN_tuple, s_is, s_isnt, s_xl, s_xt, s_xs, s_cl, s_ct, s_cs, s_add, s_sub, s_lti, s_lei, s_gti, s_gei, s_min, s_max, s_neg, s_abs, s_os, at0, at1, at2, eqD_int, neD_int, List.getElem?_cons_zero, List.getElem?_cons_succ, List.set_cons_zero, List.set_cons_succ, List.map_cons, List.map_nil, Bool.false_eq_true, Bool.not_true, Bool.not_false, ite_true, ite_false, if_true, if_false, true_and, and_true]
      refine optQ_of (mulL (k := 25) (by decide) (by omega)) ?_
      refine optQ_of (mulL (k := 25) (by decide) (by omega)) ?_
      refine ⟨le_dn rfl, ?_⟩
      refine ⟨le_dn rfl, ?_⟩
      refine ⟨le_dn rfl, ?_⟩
      refine ⟨le_dn rfl, ?_⟩
      refine ⟨le_dn rfl, ?_⟩
      refine som_add (k := 2) dsom lsom (by (repeat' (first | exact dl_nil | exact dp_none | exact dp_str | exact dp_int | exact dgsN | exact dPsN | exact dAsN | exact daN | exact dbN | refine dl_cons ?_ ?_ | refine dl_app ?_ ?_ | refine dl_cut ?_ | refine dl_rep ?_ | refine dl_tupS ?_ | refine dl_lstS ?_))) (le_dn rfl) (by decide) (fun som dsom l98 lsom => ?_)
      subst hg
      refine dSeq_hide fun g hg => ?_
      try simp only [dIsNv, dRevO, dPar, dPar3, dTryB, bSeq, bIf, bCall, bNil, dAug, iR3, dMod0, xStar, dRepO, dExcA, dTryK, dIsx, lose, loseV, dSeq, dRet, dRetN, dIfS, dTst, dTru, dOp, dVar, dVarK, dC, dChain, dNot, dAnd, dOr, dAndE, dOrE, dNotE, dBoolE, dIf, dFn, dB, dTup, dLst, dO, xNil, xCons, dNext, dSet, dSetO, dRel, relE, dExpr, dCall, dCallO, dCons, dNil, dPurA, dAsg, gdName, gdNil, gdCons, gdTup, dForS, dCut, dCutO, dNoP, dPart, dCatO, dListO, dLc, wipeE, dApp, dIns, dSetIx, dRaise, dRetO, dRetOE, dCount, dRev, iL, iT, iS, iR1, iR2, iEL, iET, iZ, dYes, s_tb, s_tn, s_ti, s_tl, s_tt, s_dd, s_do, s_ll, s_lt, s_ls, s_ul, s_ut, s_isStr_none, s_isStr_bool, s_isStr_int, s_isStr_str, s_isStr_list, s_isStr_tuple, s_isTup_none, s_isTup_bool, s_isTup_int, s_isTup_str, s_isTup_list, s_isTup_tuple, s_isLst_none, s_isLst_bool, s_isLst_int, s_isLst_str, s_isLst_list, s_isLst_tuple, s_isInt_none, s_isInt_bool, s_isInt_int, s_isInt_str, s_isInt_list, s_isInt_tuple, s_isBool_none, s_isBool_bool, s_isBool_int, s_isBool_str, s_isBool_list, s_isBool_tuple, s_isN_none, s_isN_bool, s_isN_int, s_isN_str, s_isN_list, s_isN_tuple, s_is, s_isnt, s_xl, s_xt, s_xs, s_cl, s_ct, s_cs, s_add, s_sub, s_lti, s_lei, s_gti, s_gei, s_min, s_max, s_neg, s_abs, s_os, at0, at1, at2, eqD_int, neD_int, List.getElem?_cons_zero, List.getElem?_cons_succ, List.set_cons_zero, List.set_cons_succ, List.map_cons, List.map_nil, Bool.false_eq_true, Bool.not_true, Bool.not_false, ite_true, ite_false, if_true, if_false, true_and, and_true]
      refine ⟨le_dn rfl, ?_⟩
      refine ⟨le_dn rfl, ?_⟩
      refine som_add (k := 1) dsom lsom (by (repeat' (first | exact dl_nil | exact dp_none | exact dp_str | exact dp_int | exact dgsN | exact dPsN | exact dAsN | exact daN | exact dbN | refine dl_cons ?_ ?_ | refine dl_app ?_ ?_ | refine dl_cut ?_ | refine dl_rep ?_ | refine dl_tupS ?_ | refine dl_lstS ?_))) (le_dn rfl) (by decide) (fun som dsom l99 lsom => ?_)
      subst hg
      refine dSeq_hide fun g hg => ?_
      try simp only [dIsNv, dRevO, dPar, dPar3, dTryB, bSeq, bIf, bCall, bNil, dAug, iR3, dMod0, xStar, dRepO, dExcA, dTryK, dIsx, lose, loseV, dSeq, dRet, dRetN, dIfS, dTst, dTru, dOp, dVar, dVarK, dC, dChain, dNot, dAnd, dOr, dAndE, dOrE, dNotE, dBoolE, dIf, dFn, dB, dTup, dLst, dO, xNil, xCons, dNext, dSet, dSetO, dRel, relE, dExpr, dCall, dCallO, dCons, dNil, dPurA, dAsg, gdName, gdNil, gdCons, gdTup, dForS, dCut, dCutO, dNoP, dPart, dCatO, dListO, dLc, wipeE, dApp, dIns, dSetIx, dRaise, dRetO, dRetOE, dCount, dRev, iL, iT, iS, iR1, iR2, iEL, iET, iZ, dYes, s_tb, s_tn, s_ti, s_tl, s_tt, s_dd, s_do, s_ll, s_lt, s_ls, s_ul, s_ut, s_isStr_none, s_isStr_bool, s_isStr_int, s_isStr_str, s_isStr_list, s_isStr_tuple, s_isTup_none, s_isTup_bool, s_isTup_int, s_isTup_str, s_isTup_list, s_isTup_tuple, s_isLst_none, s_isLst_bool, s_isLst_int, s_isLst_str, s_isLst_list, s_isLst_tuple, s_isInt_none, s_isInt_bool, s_isInt_int, s_isInt_str, s_isInt_list, s_isInt_tuple, s_isBool_none, s_isBool_bool, s_isBool_int, s_isBool_str, s_isBool_list, s_isBool_tuple, s_isN_none, s_isN_bool, s_isN_int, s_isN_str, s_isN_list, s_isN_tuple, s_is, s_isnt, s_xl, s_xt, s_xs, s_cl, s_ct, s_cs, s_add, s_sub, s_lti, s_lei, s_gti, s_gei, s_min, s_max, s_neg, s_abs, s_os, at0, at1, at2, eqD_int, neD_int, List.getElem?_cons_zero, List.getElem?_cons_succ, List.set_cons_zero, List.set_cons_succ, List.map_cons, List.map_nil, Bool.false_eq_true, Bool.not_true, Bool.not_false, ite_true, ite_false, if_true, if_false, true_and, and_true]
      refine ⟨le_dn rfl, ?_⟩
      refine optQ_of (addT (by have := cut_len gs (some 1) none; simp only [List.length_cons, List.length_nil]; omega)) ?_
      refine ⟨le_dn rfl, ?_⟩
      refine ⟨le_dn rfl, ?_⟩
      refine som_add (k := 1) dsom lsom (by (repeat' (first | exact dl_nil | exact dp_none | exact dp_str | exact dp_int | exact dgsN | exact dPsN | exact dAsN | exact daN | exact dbN | refine dl_cons ?_ ?_ | refine dl_app ?_ ?_ | refine dl_cut ?_ | refine dl_rep ?_ | refine dl_tupS ?_ | refine dl_lstS ?_))) (le_dn rfl) (by decide) (fun som dsom l910 lsom => ?_)
      subst hg
      refine dSeq_hide fun g hg => ?_
      try simp only [dIsNv, dRevO, dPar, dPar3, dTryB, bSeq, bIf, bCall, bNil, dAug, iR3, dMod0, xStar, dRepO, dExcA, dTryK, dIsx, lose, loseV, dSeq, dRet, dRetN, dIfS, dTst, dTru, dOp, dVar, dVarK, dC, dChain, dNot, dAnd, dOr, dAndE, dOrE, dNotE, dBoolE, dIf, dFn, dB, dTup, dLst, dO, xNil, xCons, dNext, dSet, dSetO, dRel, relE, dExpr, dCall, dCallO, dCons, dNil, dPurA, dAsg, gdName, gdNil, gdCons, gdTup, dForS, dCut, dCutO, dNoP, dPart, dCatO, dListO, dLc, wipeE, dApp, dIns, dSetIx, dRaise, dRetO, dRetOE, dCount, dRev, iL, iT, iS, iR1, iR2, iEL, iET, iZ, dYes, s_tb, s_tn, s_ti, s_tl, s_tt, s_dd, s_do, s_ll, s_lt, s_ls, s_ul, s_ut, s_isStr_none, s_isStr_bool, s_isStr_int, s_isStr_str, s_isStr_list, s_isStr_tuple, s_isTup_none, s_isTup_bool, s_isTup_int, s_isTup_str, s_isTup_list, s_isTup_tuple, s_isLst_none, s_isLst_bool, s_isLst_int, s_isLst_str, s_isLst_list, s_isLst_tuple, s_isInt_none, s_isInt_bool, s_isInt_int, s_isInt_str, s_isInt_list, s_isInt_tuple, s_isBool_none, s_isBool_bool, s_isBool_int, s_isBool_str, s_isBool_list, s_isBool_tuple, s_isN_none, s_isN_bool, s_isN_int, s_isN_str, s_isN_list, s_isN_tuple, s_is, s_isnt, s_xl, s_xt, s_xs, s_cl, s_ct, s_cs, s_add, s_sub, s_lti, s_lei, s_gti, s_gei, s_min, s_max, s_neg, s_abs, s_os, at0, at1, at2, eqD_int, neD_int, List.getElem?_cons_zero, List.getElem?_cons_succ, List.set_cons_zero, List.set_cons_succ, List.map_cons, List.map_nil, Bool.false_eq_true, Bool.not_true, Bool.not_false, ite_true, ite_false, if_true, if_false, true_and, and_true]
      refine ⟨le_dn rfl, ?_⟩
      refine optQ_of (addT (by have := cut_len gs (some 1) none; simp only [List.length_cons, List.length_nil]; omega)) ?_
      refine ⟨le_dn rfl, ?_⟩
      refine ⟨le_dn rfl, ?_⟩
      refine som_add (k := 1) dsom lsom (by (repeat' (first | exact dl_nil | exact dp_none | exact dp_str | exact dp_int | exact dgsN | exact dPsN | exact dAsN | exact daN | exact dbN | refine dl_cons ?_ ?_ | refine dl_app ?_ ?_ | refine dl_cut ?_ | refine dl_rep ?_ | refine dl_tupS ?_ | refine dl_lstS ?_))) (le_dn rfl) (by decide) (fun som dsom l911 lsom => ?_)
      subst hg
      try simp only [dIsNv, dRevO, dPar, dPar3, dTryB, bSeq, bIf, bCall, bNil, dAug, iR3, dMod0, xStar, dRepO, dExcA, dTryK, dIsx, lose, loseV, dSeq, dRet, dRetN, dIfS, dTst, dTru, dOp, dVar, dVarK, dC, dChain, dNot, dAnd, dOr, dAndE, dOrE, dNotE, dBoolE, dIf, dFn, dB, dTup, dLst, dO, xNil, xCons, dNext, dSet, dSetO, dRel, relE, dExpr, dCall, dCallO, dCons, dNil, dPurA, dAsg, gdName, gdNil, gdCons, gdTup, dForS, dCut, dCutO, dNoP, dPart, dCatO, dListO, dLc, wipeE, dApp, dIns, dSetIx, dRaise, dRetO, dRetOE, dCount, dRev, iL, iT, iS, iR1, iR2, iEL, iET, iZ, dYes, s_tb, s_tn, s_ti, s_tl, s_tt, s_dd, s_do, s_ll, s_lt, s_ls, s_ul, s_ut, s_isStr_none, s_isStr_bool, s_isStr_int, s_isStr_str, s_isStr_list, s_isStr_tuple, s_isTup_none, s_isTup_bool, s_isTup_int, s_isTup_str, s_isTup_list, s_isTup_tuple, s_isLst_none, s_isLst_bool, s_isLst_int, s_isLst_str, s_isLst_list, s_isLst_tuple, s_isInt_none, s_isInt_bool, s_isInt_int, s_isInt_str, s_isInt_list, s_isInt_tuple, s_isBool_none, s_isBool_bool, s_isBool_int, s_isBool_str, s_isBool_list, s_isBool_tuple, s_isN_none, s_isN_bool, s_isN_int, s_isN_str, s_isN_list, s_isN_tuple, s_is, s_isnt, s_xl, s_xt, s_xs, s_cl, s_ct, s_cs, s_add, s_sub, s_lti, s_lei, s_gti, s_gei, s_min, s_max, s_neg, s_abs, s_os, at0, at1, at2, eqD_int, neD_int, List.getElem?_cons_zero, List.getElem?_cons_succ, List.set_cons_zero, List.set_cons_succ, List.map_cons, List.map_nil, Bool.false_eq_true, Bool.not_true, Bool.not_false, ite_true, ite_false, if_true, if_false, true_and, and_true]
      exact ⟨by omega, by omega, by omega, fun y hy => h y _ (Nat.le_trans (dsom y hy) (by decide)) (by omega)⟩
    · exact h.elim

end
end Dv
set_option Elab.async false
set_option linter.all false
set_option maxRecDepth 100000
set_option maxHeartbeats 1000000
namespace Dv
open PySem PySem.Spec PyProof.Rows L2
theorem neD_self {y : PyData} (h : y.depth ≤ 64) (e : PyData.eqv y y = true) : neD y y = some (.bool false) := by
  unfold neD
  rw [if_pos ⟨h, h⟩, e]
  rfl
theorem ne_str (z : Str) : neD (.str z) (.str z) = some (.bool false) := neD_self (by simp [PyData.depth]) (by rw [eqv_str]; exact decide_eq_true rfl)
theorem neD_fr (p q : Rat) : neD (frD p) (frD q) = some (.bool (!decide (p = q))) := by
  have h : PyData.eqv (frD p) (frD q) = decide (p = q) := by
    unfold frD
    simp only [PyData.eqv, PyData.eqvAll, Bool.and_true]
    rw [Bool.eq_iff_iff, Bool.and_eq_true, decide_eq_true_iff]
    constructor
    · rintro ⟨h1, h2⟩
      have h1' : p.num = q.num := by simpa using h1
      have h2' : (p.den : Int) = (q.den : Int) := by simpa using h2
      exact Rat.ext h1' (by omega)
    · rintro rfl
      simp
  unfold neD
  rw [if_pos ⟨by unfold frD; simp [PyData.depth, PyData.depthAll], by unfold frD; simp [PyData.depth, PyData.depthAll]⟩, h]
theorem sm_word8 {d : PyData} (h : isWordD 8 d = true) : Sm 82 d := by
  obtain ⟨z, rfl⟩ := wordS h
  have h' : (decide (1 ≤ (z.length : Int)) && (decide ((z.length : Int) ≤ 8) && z.cps.toList.all isL)) = true := h
  rw [Bool.and_eq_true, Bool.and_eq_true, decide_eq_true_iff, decide_eq_true_iff] at h'
  constructor
  · rw [pl, List.all_eq_true]
    intro c hc
    have := List.all_eq_true.mp h'.2.2 c hc
    unfold isL at this
    rw [Bool.and_eq_true, decide_eq_true_iff, decide_eq_true_iff] at this
    exact decide_eq_true (by omega)
  · rw [wt]
    omega
theorem sm_row {r : List Int} (h : ∀ n ∈ r, n.natAbs ≤ 1000000) (l : r.length ≤ 8) : Sm 600 (intsL r) := by
  refine sm_lst (n := 42) (m := 8) (fun d hd => ?_) (by rw [List.length_map]; exact l) (by decide)
  obtain ⟨n, hn, rfl⟩ := List.mem_map.mp hd
  have := h n hn
  exact sm_int (by omega)
theorem sm_mk {gs : List PyData} {P A : List (List Int)} (g : GoodM gs P A) : Sm 60000 (mkD gs P A) := by
  have g8 := g.g8
  have l24 := g.l24
  have la := g.la
  have hg : Sm 15000 (.tuple gs) := sm_tup (n := 82) (m := 8) (fun d hd => by
    have hn := g.gn
    unfold nameD at hn
    rw [Bool.and_eq_true, List.all_eq_true] at hn
    exact sm_word8 (hn.1 d hd)) g8 (by decide)
  have hP : Sm 15000 (.list (P.map intsL)) := sm_lst (n := 600) (m := 24) (fun d hd => by
    obtain ⟨r, hr, rfl⟩ := List.mem_map.mp hd
    have := g.pr r hr
    exact sm_row (fun n hn => by have := this.2 n hn; omega) (by omega)) (by rw [List.length_map]; exact l24) (by decide)
  have hA : Sm 15000 (.list (A.map intsL)) := sm_lst (n := 600) (m := 24) (fun d hd => by
    obtain ⟨r, hr, rfl⟩ := List.mem_map.mp hd
    have := g.am r hr
    exact sm_row (fun n hn => by have := this.2.1 n hn; omega) (by omega)) (by rw [List.length_map]; omega) (by decide)
  exact ls_tup (ls_cons hg (ls_cons hP (ls_one hA))) (by decide)
theorem dp_mk {gs : List PyData} {P A : List (List Int)} (g : GoodM gs P A) : (mkD gs P A).depth ≤ 4 := dl_tupS (dl_cons (dl_tup (dl_names (n := 0) g.gn) (by decide)) (dl_cons (dl_lstS (dl_rows (n := 0) P)) (dl_one (dl_lstS (dl_rows (n := 0) A)))))
theorem repr_mk {gs : List PyData} {P A : List (List Int)} (g : GoodM gs P A) : reprD (mkD gs P A) = some (.str (mkD gs P A).shown) := repr_small (sm_mk g) (by decide) (Nat.le_trans (dp_mk g) (by decide))
theorem mw_ne (x : PyData) : neD (mwrong x) (mwrong x) = some (.bool false) := by
  have key : ∀ y : PyData, (y = .none ∨ (∃ w, y = .tuple [.str w]) ∨ ∃ w, ∃ k : Nat, y = .tuple [.str w, .int k]) → neD y y = some (.bool false) := fun y h => by
    rcases h with rfl | ⟨w, rfl⟩ | ⟨w, k, rfl⟩
    · exact neD_self (by decide) (by decide)
    · exact neD_self (by simp [PyData.depth, PyData.depthAll]) (by simp [PyData.eqv, PyData.eqvAll])
    · exact neD_self (by simp [PyData.depth, PyData.depthAll]) (by simp [PyData.eqv, PyData.eqvAll])
  refine key _ ?_
  unfold mwrong
  split
  · split
    · split
      · unfold wrongR wrongQ
        split
        · exact .inr (.inr ⟨_, _, rfl⟩)
        · split
          · exact .inr (.inr ⟨_, _, rfl⟩)
          · exact .inl rfl
      · exact .inr (.inl ⟨_, rfl⟩)
    · exact .inr (.inl ⟨_, rfl⟩)
  · exact .inr (.inl ⟨_, rfl⟩)
theorem intsL_inj {a b : List Int} (h : intsL a = intsL b) : a = b := by
  have h2 : a.map PyData.int = b.map PyData.int := by
    unfold intsL at h
    exact PyData.list.inj h
  exact (List.map_inj_right fun x y e => PyData.int.inj e).mp h2
theorem mkD_inj {gs gs2 : List PyData} {P P2 A A2 : List (List Int)} (h : mkD gs P A = mkD gs2 P2 A2) : gs = gs2 ∧ P = P2 ∧ A = A2 := by
  unfold mkD at h
  have h1 := PyData.tuple.inj h
  injection h1 with h2 h3
  injection h3 with h4 h5
  injection h5 with h6 h7
  exact ⟨PyData.tuple.inj h2, (List.map_inj_right fun x y e => intsL_inj e).mp (PyData.list.inj h4), (List.map_inj_right fun x y e => intsL_inj e).mp (PyData.list.inj h6)⟩
theorem times_good {gs : List PyData} {P A : List (List Int)} {i j : Nat} (hi : i < P.length) (hj : j < P.length) : timesOk (mkD gs P A) (.int i) (.int j) = true := by
  have e : mlast (mkD gs P A) = (P.length : Int) - 1 := by
    show (((P.map intsL).length : Nat) : Int) - 1 = _
    rw [List.length_map]
  unfold timesOk
  rw [e]
  show ((decide ((0 : Int) ≤ i) && decide ((i : Int) ≤ (P.length : Int) - 1)) && ((decide ((0 : Int) ≤ j) && decide ((j : Int) ≤ (P.length : Int) - 1)) && true)) = true
  rw [decide_eq_true (by omega), decide_eq_true (by omega), decide_eq_true (by omega), decide_eq_true (by omega)]
  rfl
theorem way_good {z : PyData} (h : z = .str "old" ∨ z = .str "new") : wayOk z = true ∧ z.depth ≤ 64 := by
  rcases h with rfl | rfl
  · exact ⟨by unfold wayOk; rw [eqv_str]; rfl, by simp [PyData.depth]⟩
  · exact ⟨by unfold wayOk; rw [eqv_str, eqv_str]; rfl, by simp [PyData.depth]⟩
/-- one who asks rightly is not refused -/
theorem need_good {C1 C2 C3 : Addr} {gs : List PyData} {P A : List (List Int)} {i j : Nat} {z : PyData} {T : Nat} {Eh : DX → Prop} {W : Prop} (g : GoodM gs P A) (hi : i < P.length) (hj : j < P.length) (hz : z = .str "old" ∨ z = .str "new") (h : W) : needW C1 C2 C3 (mkD gs P A) (.int i) (.int j) z T Eh W := by
  have w := way_good hz
  have m : isN (mwrong (mkD gs P A)) = true := by rw [good_mw g]; rfl
  exact ⟨w.2, fun e => absurd (m.symm.trans e) (by decide), fun _ e => absurd ((times_good hi hj).symm.trans e) (by decide), fun _ _ e => absurd (w.1.symm.trans e) (by decide), fun _ _ _ => h⟩
theorem nats_ex {m : Nat} : ∀ {ys : List PyData}, (∀ y ∈ ys, ∃ n : Nat, y = .int (n : Nat) ∧ n < m) → ∃ ns : List Nat, ys = ns.map iN ∧ ∀ n ∈ ns, n < m
  | [], _ => ⟨[], rfl, fun n hn => by simp at hn⟩
  | y :: r, h => by
    obtain ⟨ns, e, hn⟩ := nats_ex fun x hx => h x (List.mem_cons_of_mem _ hx)
    obtain ⟨n, rfl, h1⟩ := h y List.mem_cons_self
    exact ⟨n :: ns, by rw [List.map_cons, e]; rfl, fun m hm => by
      rcases List.mem_cons.mp hm with rfl | hm
      · exact h1
      · exact hn m hm⟩
abbrev s_law : Stmt := topS 48
abbrev n_law : List Str := ["_law_script", "_law_purse", "_law_time", "_law_market", "_law_shown_here", "_law_some", "_law_k", "_law_one", "_law_other", "_law_way_here", "_law_told_here", "_law_thing"]
theorem sc_law : FnScope n_law ["_law_script"] (defScope s_law) := ⟨rfl, rfl, rfl, by decide +kernel, rfl, by decide +kernel, by decide +kernel⟩
section
variable {P : Program} {w : World} {K : PySem.W.Frag} {mg : Str → Option Value} {base : Heap}
theorem ok_law {f : Addr} {fd : FuncData} {k : Nat} {tb : List Addr} {C_NoMarket : Addr} {C_NoTime : Addr} {C_NoWay : Addr} (F : Fun K "law" "law" s_law f fd) (AP : ∃ fP dP, FnOk P w K mg base CX0 k fP dP ["_law_script"] (Cv.spPurse K) ∧ PySem.W.keepIn K (.ref fP) = true ∧ Binds K dP ["_law_script"] [] ∧ mg "_law_purse_by" = some (.ref fP)) (A__law_bent : AtD P w K mg base k tb "_law_bent" ["_law_purse", "_law_market"] (G__law_bent)) (A__law_draw : AtD P w K mg base k tb "_law_draw" ["_law_purse", "_law_out_of"] (G__law_draw)) (A__law_market_by : AtD P w K mg base k tb "_law_market_by" ["_law_purse", "_law_most"] (G__law_market_by)) (A__law_number : AtD P w K mg base k tb "_law_number" ["_law_market", "_law_one", "_law_other", "_law_way_here"] (G__law_number)) (A__law_wrong : AtD P w K mg base k tb "_law_wrong" ["_law_thing"] (G__law_wrong)) (A_market_wrong : AtD P w K mg base k tb "market_wrong" ["thing"] (G_market_wrong)) (A_number : AtD P w K mg base k tb "number" ["market", "one", "other", "way"] (G_number C_NoMarket C_NoTime C_NoWay)) (m_isinstance : mg "isinstance" = none) (m_len : mg "len" = none) (m_range : mg "range" = none) (m_repr : mg "repr" = none) (m_tuple : mg "tuple" = none) : Cv.FnAt callerA P w K mg base (k + 1) f fd ["_law_script"] (spLaw K tb) := by
  obtain ⟨fP, dP, p1, p2, p3, p4⟩ := AP
  have hb : defBody s_law = _ :: _ := rfl
  refine fndL (tb := tb) F sc_law (by decide) hb (fun cdv outer s H E hr => ⟨_, ps_set (i := 1) sc_law.nd rfl (.inr rfl) (pe_call p1 hr (by rfl) p4 p2 p3 .nil pass0 (pa_cons (pv 0) pa_nil)), fun _ _ _ h => h, _, (pssd_cons (psd_for PassesOwn.never rfl (pid_range1 (by rfl) m_range pd_int) (PGd.y (pgd_name (i := 2) sc_law.nd rfl (.inl rfl))) (pssd_cons (psd_set (i := 3) sc_law.nd rfl (.inr rfl) (pd_call A__law_market_by hr (by rfl) (pad_pur (pv 1) (pad_cons pd_int pad_nil))))
      (pssd_cons (psd_set (i := 4) sc_law.nd rfl (.inl rfl) (pd_b1 (cad_repr rfl hr) (by rfl) m_repr (by decide +kernel) (pk_var (pv 3))))
      (pssd_cons (psd_setLc (i := 5) (own := [("_law_k", 6)]) (γ := (gdName 6)) (tt := dYes) (te := (dCall (fun _ => False) G__law_draw (dPurA 1 (dCons (dFn lenD (dOp ixD (dVarK 3) (dC (.int 1)))) dNil)))) (f := (iR1 (dC (.int 3)))) rfl sc_law.nd rfl rfl (sw_true rfl rfl rfl (by decide +kernel)) (pid_range1 (by rfl) m_range pd_int) (blkOk_by (own := [("_law_k", 6)]) (N := n_law) (sc := defScope s_law) (by decide +kernel)) (fun _ _ _ _ _ => (PGd.y (pgd_name (i := 6) sc_law.nd rfl (.inl rfl)))) (fun _ _ _ _ _ => ptsd_nil) (fun _ _ _ _ _ => (pd_call A__law_draw hr (by rfl) (pad_pur (pv 1) (pad_cons (pd_b1 cad_len (by rfl) m_len PySem.boot_len (PD.k (pd_ix (pk_var (pv 3)) (PD.k pd_int) (fun _ _ => rfl)))) pad_nil)))))
      (pssd_rel 5 (pssd_cons (psd_for PassesOwn.never rfl (pid_list (pd_var (pv 5))) (PGd.y (pgd_name (i := 7) sc_law.nd rfl (.inl rfl))) (pssd_one (psd_for PassesOwn.never rfl (pid_list (pd_var (pv 5))) (PGd.y (pgd_name (i := 8) sc_law.nd rfl (.inl rfl))) (pssd_one (psd_for PassesOwn.never rfl (pid_list (PDo.d (pdo_lst (pxd_cons pd_str (pxd_cons pd_str pxd_nil))))) (PGd.y (pgd_name (i := 9) sc_law.nd rfl (.inl rfl))) (pssd_cons (psd_set (i := 10) sc_law.nd rfl (.inl rfl) (pd_call A_number hr (by rfl) (pad_cons (pd_var (pv 3)) (pad_cons (pd_var (pv 7)) (pad_cons (pd_var (pv 8)) (pad_cons (pd_var (pv 9)) pad_nil))))))
      (pssd_one (psd_if (PWd.pt (pwd_or (ptd_cmp (opd_ne hr.units) (pk_var (pv 10)) (PD.k (pd_call A__law_number hr (by rfl) (pad_cons (pd_var (pv 3)) (pad_cons (pd_var (pv 7)) (pad_cons (pd_var (pv 8)) (pad_cons (pd_var (pv 9)) pad_nil)))))) (nomark _)) (pwd_or1 (ptd_not (ptd_tru (PD.k (pd_isi ki_tuple (by rfl) m_isinstance (by rfl) m_tuple (by decide +kernel) (pk_var (pv 10))))))))) (pssd_one (psd_ret pd_bl)) pssd_nil))))))))
      (pssd_cons (psd_for PassesOwn.never rfl (pid_list (pd_op opd_add (PD.k (PDo.d (pdo_lst (pxd_cons (pd_var (pv 3)) pxd_nil)))) (PD.k (PDo.d (pdo_lc (own := [("_law_k", 6)]) (γ := (gdName 6)) (tt := dYes) (te := (dCall (fun _ => False) G__law_bent (dPurA 1 (dCons (dVar 3) dNil)))) (f := (iR1 (dC (.int 6)))) rfl sc_law.nd (pid_range1 (by rfl) m_range pd_int) (blkOk_by (own := [("_law_k", 6)]) (N := n_law) (sc := defScope s_law) (by decide +kernel)) (fun _ _ _ _ _ => (PGd.y (pgd_name (i := 6) sc_law.nd rfl (.inl rfl)))) (fun _ _ _ _ _ => ptsd_nil) (fun _ _ _ _ _ => (pd_call A__law_bent hr (by rfl) (pad_pur (pv 1) (pad_cons (pd_var (pv 3)) pad_nil))))))))) (PGd.y (pgd_name (i := 11) sc_law.nd rfl (.inl rfl))) (pssd_one (psd_if (ptd_cmp (opd_ne hr.units) (PD.k (pd_call A_market_wrong hr (by rfl) (pad_cons (pd_var (pv 11)) pad_nil))) (PD.k (pd_call A__law_wrong hr (by rfl) (pad_cons (pd_var (pv 11)) pad_nil))) (nomark _)) (pssd_one (psd_ret pd_bl)) pssd_nil)))
      (pssd_one (psd_if (ptd_cmp (opd_ne hr.units) (PD.k (pd_b1 (cad_repr rfl hr) (by rfl) m_repr (by decide +kernel) (pk_var (pv 3)))) (pk_var (pv 4)) (nomark _)) (pssd_one (psd_ret pd_bl)) pssd_nil)))))))))
      (pssd_one (psd_ret pd_bl))), ?_⟩)
  rw [show lawE n_law = [.no, .pur, .no, .no, .no, .no, .no, .no, .no, .no, .no, .no] from rfl]
  try simp only [dIsNv, dRevO, dPar, dPar3, dTryB, bSeq, bIf, bCall, bNil, dAug, iR3, dMod0, xStar, dRepO, dExcA, dTryK, dIsx, lose, loseV, dSeq, dRet, dRetN, dIfS, dTst, dTru, dOp, dVar, dVarK, dC, dChain, dNot, dAnd, dOr, dAndE, dOrE, dNotE, dBoolE, dIf, dFn, dB, dTup, dLst, dO, xNil, xCons, dNext, dSet, dSetO, dRel, relE, dExpr, dCall, dCallO, dCons, dNil, dPurA, dAsg, gdName, gdNil, gdCons, gdTup, dForS, dCut, dCutO, dNoP, dPart, dCatO, dListO, dLc, wipeE, dApp, dIns, dSetIx, dRaise, dRetO, dRetOE, dCount, dRev, iL, iT, iS, iR1, iR2, iEL, iET, iZ, dYes, s_tb, s_tn, s_ti, s_tl, s_tt, s_dd, s_do, s_ll, s_lt, s_ls, s_ul, s_ut, s_isStr_none, s_isStr_bool, s_isStr_int, s_isStr_str, s_isStr_list, s_isStr_tuple, s_isTup_none, s_isTup_bool, s_isTup_int, s_isTup_str, s_isTup_list, s_isTup_tuple, s_isLst_none, s_isLst_bool, s_isLst_int, s_isLst_str, s_isLst_list, s_isLst_tuple, s_isInt_none, s_isInt_bool, s_isInt_int, s_isInt_str, s_isInt_list, s_isInt_tuple, s_isBool_none, s_isBool_bool, s_isBool_int, s_isBool_str, s_isBool_list, s_isBool_tuple, s_isN_none, s_isN_bool, s_isN_int, s_isN_str, s_isN_list, s_isN_tuple, s_is, s_isnt, s_xl, s_xt, s_xs, s_cl, s_ct, s_cs, s_add, s_sub, s_lti, s_lei, s_gti, s_gei, s_min, s_max, s_neg, s_abs, s_os, at0, at1, at2, eqD_int, neD_int, List.getElem?_cons_zero, List.getElem?_cons_succ, List.set_cons_zero, List.set_cons_succ, List.map_cons, List.map_nil, Bool.false_eq_true, Bool.not_true, Bool.not_false, ite_true, ite_false, if_true, if_false, true_and, and_true]
  refine ⟨by decide, ?_⟩
  refine dFor_ind (fun i E' T' => (∃ a2 a3 a4 a5 a6 a7 a8 a9 a10 a11, E' = [.no, .pur, a2, a3, a4, a5, a6, a7, a8, a9, a10, a11]) ∧ T' ≤ 2000 * i) ⟨⟨_, _, _, _, _, _, _, _, _, _, rfl⟩, Nat.zero_le _⟩ (fun i x E' T' K' hx hI hK => ?_) (fun E' T' hI => trivial)
  obtain ⟨⟨a2, a3, a4, a5, a6, a7, a8, a9, a10, a11, rfl⟩, hT⟩ := hI
  have hi : i < 3 := (List.getElem?_eq_some_iff.mp hx).1
  try simp only [dIsNv, dRevO, dPar, dPar3, dTryB, bSeq, bIf, bCall, bNil, dAug, iR3, dMod0, xStar, dRepO, dExcA, dTryK, dIsx, lose, loseV, dSeq, dRet, dRetN, dIfS, dTst, dTru, dOp, dVar, dVarK, dC, dChain, dNot, dAnd, dOr, dAndE, dOrE, dNotE, dBoolE, dIf, dFn, dB, dTup, dLst, dO, xNil, xCons, dNext, dSet, dSetO, dRel, relE, dExpr, dCall, dCallO, dCons, dNil, dPurA, dAsg, gdName, gdNil, gdCons, gdTup, dForS, dCut, dCutO, dNoP, dPart, dCatO, dListO, dLc, wipeE, dApp, dIns, dSetIx, dRaise, dRetO, dRetOE, dCount, dRev, iL, iT, iS, iR1, iR2, iEL, iET, iZ, dYes, s_tb, s_tn, s_ti, s_tl, s_tt, s_dd, s_do, s_ll, s_lt, s_ls, s_ul, s_ut, s_isStr_none, s_isStr_bool, s_isStr_int, s_isStr_str, s_isStr_list, s_isStr_tuple, s_isTup_none, s_isTup_bool, s_isTup_int, s_isTup_str, s_isTup_list, s_isTup_tuple, s_isLst_none, s_isLst_bool, s_isLst_int, s_isLst_str, s_isLst_list, s_isLst_tuple, s_isInt_none, s_isInt_bool, s_isInt_int, s_isInt_str, s_isInt_list, s_isInt_tuple, s_isBool_none, s_isBool_bool, s_isBool_int, s_isBool_str, s_isBool_list, s_isBool_tuple, s_isN_none, s_isN_bool, s_isN_int, s_isN_str, s_isN_list, s_isN_tuple, s_is, s_isnt, s_xl, s_xt, s_xs, s_cl, s_ct, s_cs, s_add, s_sub, s_lti, s_lei, s_gti, s_gei, s_min, s_max, s_neg, s_abs, s_os, at0, at1, at2, eqD_int, neD_int, List.getElem?_cons_zero, List.getElem?_cons_succ, List.set_cons_zero, List.set_cons_succ, List.map_cons, List.map_nil, Bool.false_eq_true, Bool.not_true, Bool.not_false, ite_true, ite_false, if_true, if_false, true_and, and_true]
  refine ⟨by decide, by decide, by omega, fun gs P A T1 g hP8 h1 => ?_⟩
  try simp only [dIsNv, dRevO, dPar, dPar3, dTryB, bSeq, bIf, bCall, bNil, dAug, iR3, dMod0, xStar, dRepO, dExcA, dTryK, dIsx, lose, loseV, dSeq, dRet, dRetN, dIfS, dTst, dTru, dOp, dVar, dVarK, dC, dChain, dNot, dAnd, dOr, dAndE, dOrE, dNotE, dBoolE, dIf, dFn, dB, dTup, dLst, dO, xNil, xCons, dNext, dSet, dSetO, dRel, relE, dExpr, dCall, dCallO, dCons, dNil, dPurA, dAsg, gdName, gdNil, gdCons, gdTup, dForS, dCut, dCutO, dNoP, dPart, dCatO, dListO, dLc, wipeE, dApp, dIns, dSetIx, dRaise, dRetO, dRetOE, dCount, dRev, iL, iT, iS, iR1, iR2, iEL, iET, iZ, dYes, s_tb, s_tn, s_ti, s_tl, s_tt, s_dd, s_do, s_ll, s_lt, s_ls, s_ul, s_ut, s_isStr_none, s_isStr_bool, s_isStr_int, s_isStr_str, s_isStr_list, s_isStr_tuple, s_isTup_none, s_isTup_bool, s_isTup_int, s_isTup_str, s_isTup_list, s_isTup_tuple, s_isLst_none, s_isLst_bool, s_isLst_int, s_isLst_str, s_isLst_list, s_isLst_tuple, s_isInt_none, s_isInt_bool, s_isInt_int, s_isInt_str, s_isInt_list, s_isInt_tuple, s_isBool_none, s_isBool_bool, s_isBool_int, s_isBool_str, s_isBool_list, s_isBool_tuple, s_isN_none, s_isN_bool, s_isN_int, s_isN_str, s_isN_list, s_isN_tuple, s_is, s_isnt, s_xl, s_xt, s_xs, s_cl, s_ct, s_cs, s_add, s_sub, s_lti, s_lei, s_gti, s_gei, s_min, s_max, s_neg, s_abs, s_os, at0, at1, at2, eqD_int, neD_int, List.getElem?_cons_zero, List.getElem?_cons_succ, List.set_cons_zero, List.set_cons_succ, List.map_cons, List.map_nil, Bool.false_eq_true, Bool.not_true, Bool.not_false, ite_true, ite_false, if_true, if_false, true_and, and_true]
  refine optQ_of (repr_mk g) ?_
  try simp only [dIsNv, dRevO, dPar, dPar3, dTryB, bSeq, bIf, bCall, bNil, dAug, iR3, dMod0, xStar, dRepO, dExcA, dTryK, dIsx, lose, loseV, dSeq, dRet, dRetN, dIfS, dTst, dTru, dOp, dVar, dVarK, dC, dChain, dNot, dAnd, dOr, dAndE, dOrE, dNotE, dBoolE, dIf, dFn, dB, dTup, dLst, dO, xNil, xCons, dNext, dSet, dSetO, dRel, relE, dExpr, dCall, dCallO, dCons, dNil, dPurA, dAsg, gdName, gdNil, gdCons, gdTup, dForS, dCut, dCutO, dNoP, dPart, dCatO, dListO, dLc, wipeE, dApp, dIns, dSetIx, dRaise, dRetO, dRetOE, dCount, dRev, iL, iT, iS, iR1, iR2, iEL, iET, iZ, dYes, s_tb, s_tn, s_ti, s_tl, s_tt, s_dd, s_do, s_ll, s_lt, s_ls, s_ul, s_ut, s_isStr_none, s_isStr_bool, s_isStr_int, s_isStr_str, s_isStr_list, s_isStr_tuple, s_isTup_none, s_isTup_bool, s_isTup_int, s_isTup_str, s_isTup_list, s_isTup_tuple, s_isLst_none, s_isLst_bool, s_isLst_int, s_isLst_str, s_isLst_list, s_isLst_tuple, s_isInt_none, s_isInt_bool, s_isInt_int, s_isInt_str, s_isInt_list, s_isInt_tuple, s_isBool_none, s_isBool_bool, s_isBool_int, s_isBool_str, s_isBool_list, s_isBool_tuple, s_isN_none, s_isN_bool, s_isN_int, s_isN_str, s_isN_list, s_isN_tuple, s_is, s_isnt, s_xl, s_xt, s_xs, s_cl, s_ct, s_cs, s_add, s_sub, s_lti, s_lei, s_gti, s_gei, s_min, s_max, s_neg, s_abs, s_os, at0, at1, at2, eqD_int, neD_int, List.getElem?_cons_zero, List.getElem?_cons_succ, List.set_cons_zero, List.set_cons_succ, List.map_cons, List.map_nil, Bool.false_eq_true, Bool.not_true, Bool.not_false, ite_true, ite_false, if_true, if_false, true_and, and_true]
  refine ⟨by decide, ?_⟩
  have hl3 : (rangeD 0 (Int.toNat 3)).length = 3 := rfl
  have hl6 : (rangeD 0 (Int.toNat 6)).length = 6 := rfl
  have gl1 := g.l1
  refine dLc_draw (fun y => ∃ n : Nat, y = .int (n : Nat) ∧ n < P.length) 1 (le_dn rfl) (fun y T2 Ky Kn hy hT2 hk => ?_) (fun ys T2 hl hys hT2 => ?_)
  · unfold mkD
    try simp only [dIsNv, dRevO, dPar, dPar3, dTryB, bSeq, bIf, bCall, bNil, dAug, iR3, dMod0, xStar, dRepO, dExcA, dTryK, dIsx, lose, loseV, dSeq, dRet, dRetN, dIfS, dTst, dTru, dOp, dVar, dVarK, dC, dChain, dNot, dAnd, dOr, dAndE, dOrE, dNotE, dBoolE, dIf, dFn, dB, dTup, dLst, dO, xNil, xCons, dNext, dSet, dSetO, dRel, relE, dExpr, dCall, dCallO, dCons, dNil, dPurA, dAsg, gdName, gdNil, gdCons, gdTup, dForS, dCut, dCutO, dNoP, dPart, dCatO, dListO, dLc, wipeE, dApp, dIns, dSetIx, dRaise, dRetO, dRetOE, dCount, dRev, iL, iT, iS, iR1, iR2, iEL, iET, iZ, dYes, s_tb, s_tn, s_ti, s_tl, s_tt, s_dd, s_do, s_ll, s_lt, s_ls, s_ul, s_ut, s_isStr_none, s_isStr_bool, s_isStr_int, s_isStr_str, s_isStr_list, s_isStr_tuple, s_isTup_none, s_isTup_bool, s_isTup_int, s_isTup_str, s_isTup_list, s_isTup_tuple, s_isLst_none, s_isLst_bool, s_isLst_int, s_isLst_str, s_isLst_list, s_isLst_tuple, s_isInt_none, s_isInt_bool, s_isInt_int, s_isInt_str, s_isInt_list, s_isInt_tuple, s_isBool_none, s_isBool_bool, s_isBool_int, s_isBool_str, s_isBool_list, s_isBool_tuple, s_isN_none, s_isN_bool, s_isN_int, s_isN_str, s_isN_list, s_isN_tuple, s_is, s_isnt, s_xl, s_xt, s_xs, s_cl, s_ct, s_cs, s_add, s_sub, s_lti, s_lei, s_gti, s_gei, s_min, s_max, s_neg, s_abs, s_os, at0, at1, at2, eqD_int, neD_int, List.getElem?_cons_zero, List.getElem?_cons_succ, List.set_cons_zero, List.set_cons_succ, List.map_cons, List.map_nil, Bool.false_eq_true, Bool.not_true, Bool.not_false, ite_true, ite_false, if_true, if_false, true_and, and_true]
    rw [List.length_map]
    refine ⟨_, rfl, by omega, by omega, by omega, fun r r0 r1 => hk _ _ ⟨r.toNat, congrArg PyData.int (by omega), by omega⟩ (by omega)⟩
  obtain ⟨ns, rfl, hns⟩ := nats_ex hys
  refine dFor_map iN (fun j E' T' => (∃ b7 b8 b9 b10, E' = [.no, .pur, .d x, .d (mkD gs P A), .d (.str (mkD gs P A).shown), .d (.list (ns.map iN)), a6, b7, b8, b9, b10, a11]) ∧ T2 = T') ⟨⟨_, _, _, _, rfl⟩, rfl⟩ (fun j n E' T' K2 hn hI2 hK2 => ?_) (fun E' T' hI2 => ?_)
  · obtain ⟨⟨b7, b8, b9, b10, rfl⟩, rfl⟩ := hI2
    have hn1 := hns n (List.mem_of_getElem? hn)
    try simp only [dIsNv, dRevO, dPar, dPar3, dTryB, bSeq, bIf, bCall, bNil, dAug, iR3, dMod0, xStar, dRepO, dExcA, dTryK, dIsx, lose, loseV, dSeq, dRet, dRetN, dIfS, dTst, dTru, dOp, dVar, dVarK, dC, dChain, dNot, dAnd, dOr, dAndE, dOrE, dNotE, dBoolE, dIf, dFn, dB, dTup, dLst, dO, xNil, xCons, dNext, dSet, dSetO, dRel, relE, dExpr, dCall, dCallO, dCons, dNil, dPurA, dAsg, gdName, gdNil, gdCons, gdTup, dForS, dCut, dCutO, dNoP, dPart, dCatO, dListO, dLc, wipeE, dApp, dIns, dSetIx, dRaise, dRetO, dRetOE, dCount, dRev, iL, iT, iS, iR1, iR2, iEL, iET, iZ, dYes, s_tb, s_tn, s_ti, s_tl, s_tt, s_dd, s_do, s_ll, s_lt, s_ls, s_ul, s_ut, s_isStr_none, s_isStr_bool, s_isStr_int, s_isStr_str, s_isStr_list, s_isStr_tuple, s_isTup_none, s_isTup_bool, s_isTup_int, s_isTup_str, s_isTup_list, s_isTup_tuple, s_isLst_none, s_isLst_bool, s_isLst_int, s_isLst_str, s_isLst_list, s_isLst_tuple, s_isInt_none, s_isInt_bool, s_isInt_int, s_isInt_str, s_isInt_list, s_isInt_tuple, s_isBool_none, s_isBool_bool, s_isBool_int, s_isBool_str, s_isBool_list, s_isBool_tuple, s_isN_none, s_isN_bool, s_isN_int, s_isN_str, s_isN_list, s_isN_tuple, s_is, s_isnt, s_xl, s_xt, s_xs, s_cl, s_ct, s_cs, s_add, s_sub, s_lti, s_lei, s_gti, s_gei, s_min, s_max, s_neg, s_abs, s_os, at0, at1, at2, eqD_int, neD_int, List.getElem?_cons_zero, List.getElem?_cons_succ, List.set_cons_zero, List.set_cons_succ, List.map_cons, List.map_nil, Bool.false_eq_true, Bool.not_true, Bool.not_false, ite_true, ite_false, if_true, if_false, true_and, and_true]
    refine dFor_map iN (fun j E' T' => (∃ b8 b9 b10, E' = [.no, .pur, .d x, .d (mkD gs P A), .d (.str (mkD gs P A).shown), .d (.list (ns.map iN)), a6, .d (iN n), b8, b9, b10, a11]) ∧ T2 = T') ⟨⟨_, _, _, rfl⟩, rfl⟩ (fun j m E' T' K3 hm hI3 hK3 => ?_) (fun E' T' hI3 => ?_)
    · obtain ⟨⟨b8, b9, b10, rfl⟩, rfl⟩ := hI3
      have hm1 := hns m (List.mem_of_getElem? hm)
      try simp only [dIsNv, dRevO, dPar, dPar3, dTryB, bSeq, bIf, bCall, bNil, dAug, iR3, dMod0, xStar, dRepO, dExcA, dTryK, dIsx, lose, loseV, dSeq, dRet, dRetN, dIfS, dTst, dTru, dOp, dVar, dVarK, dC, dChain, dNot, dAnd, dOr, dAndE, dOrE, dNotE, dBoolE, dIf, dFn, dB, dTup, dLst, dO, xNil, xCons, dNext, dSet, dSetO, dRel, relE, dExpr, dCall, dCallO, dCons, dNil, dPurA, dAsg, gdName, gdNil, gdCons, gdTup, dForS, dCut, dCutO, dNoP, dPart, dCatO, dListO, dLc, wipeE, dApp, dIns, dSetIx, dRaise, dRetO, dRetOE, dCount, dRev, iL, iT, iS, iR1, iR2, iEL, iET, iZ, dYes, s_tb, s_tn, s_ti, s_tl, s_tt, s_dd, s_do, s_ll, s_lt, s_ls, s_ul, s_ut, s_isStr_none, s_isStr_bool, s_isStr_int, s_isStr_str, s_isStr_list, s_isStr_tuple, s_isTup_none, s_isTup_bool, s_isTup_int, s_isTup_str, s_isTup_list, s_isTup_tuple, s_isLst_none, s_isLst_bool, s_isLst_int, s_isLst_str, s_isLst_list, s_isLst_tuple, s_isInt_none, s_isInt_bool, s_isInt_int, s_isInt_str, s_isInt_list, s_isInt_tuple, s_isBool_none, s_isBool_bool, s_isBool_int, s_isBool_str, s_isBool_list, s_isBool_tuple, s_isN_none, s_isN_bool, s_isN_int, s_isN_str, s_isN_list, s_isN_tuple, s_is, s_isnt, s_xl, s_xt, s_xs, s_cl, s_ct, s_cs, s_add, s_sub, s_lti, s_lei, s_gti, s_gei, s_min, s_max, s_neg, s_abs, s_os, at0, at1, at2, eqD_int, neD_int, List.getElem?_cons_zero, List.getElem?_cons_succ, List.set_cons_zero, List.set_cons_succ, List.map_cons, List.map_nil, Bool.false_eq_true, Bool.not_true, Bool.not_false, ite_true, ite_false, if_true, if_false, true_and, and_true]
      refine ⟨le_dn rfl, ?_⟩
      refine dFor_ind (fun j E' T' => (∃ b9 b10, E' = [.no, .pur, .d x, .d (mkD gs P A), .d (.str (mkD gs P A).shown), .d (.list (ns.map iN)), a6, .d (iN n), .d (iN m), b9, b10, a11]) ∧ T2 = T') ⟨⟨_, _, rfl⟩, rfl⟩ (fun j z E' T' K4 hz hI4 hK4 => ?_) (fun E' T' hI4 => ?_)
      · obtain ⟨⟨b9, b10, rfl⟩, rfl⟩ := hI4
        have hz2 : z = .str "old" ∨ z = .str "new" := by
          have := List.mem_of_getElem? hz
          simpa using this
        try simp only [dIsNv, dRevO, dPar, dPar3, dTryB, bSeq, bIf, bCall, bNil, dAug, iR3, dMod0, xStar, dRepO, dExcA, dTryK, dIsx, lose, loseV, dSeq, dRet, dRetN, dIfS, dTst, dTru, dOp, dVar, dVarK, dC, dChain, dNot, dAnd, dOr, dAndE, dOrE, dNotE, dBoolE, dIf, dFn, dB, dTup, dLst, dO, xNil, xCons, dNext, dSet, dSetO, dRel, relE, dExpr, dCall, dCallO, dCons, dNil, dPurA, dAsg, gdName, gdNil, gdCons, gdTup, dForS, dCut, dCutO, dNoP, dPart, dCatO, dListO, dLc, wipeE, dApp, dIns, dSetIx, dRaise, dRetO, dRetOE, dCount, dRev, iL, iT, iS, iR1, iR2, iEL, iET, iZ, dYes, s_tb, s_tn, s_ti, s_tl, s_tt, s_dd, s_do, s_ll, s_lt, s_ls, s_ul, s_ut, s_isStr_none, s_isStr_bool, s_isStr_int, s_isStr_str, s_isStr_list, s_isStr_tuple, s_isTup_none, s_isTup_bool, s_isTup_int, s_isTup_str, s_isTup_list, s_isTup_tuple, s_isLst_none, s_isLst_bool, s_isLst_int, s_isLst_str, s_isLst_list, s_isLst_tuple, s_isInt_none, s_isInt_bool, s_isInt_int, s_isInt_str, s_isInt_list, s_isInt_tuple, s_isBool_none, s_isBool_bool, s_isBool_int, s_isBool_str, s_isBool_list, s_isBool_tuple, s_isN_none, s_isN_bool, s_isN_int, s_isN_str, s_isN_list, s_isN_tuple, s_is, s_isnt, s_xl, s_xt, s_xs, s_cl, s_ct, s_cs, s_add, s_sub, s_lti, s_lei, s_gti, s_gei, s_min, s_max, s_neg, s_abs, s_os, at0, at1, at2, eqD_int, neD_int, List.getElem?_cons_zero, List.getElem?_cons_succ, List.set_cons_zero, List.set_cons_succ, List.map_cons, List.map_nil, Bool.false_eq_true, Bool.not_true, Bool.not_false, ite_true, ite_false, if_true, if_false, true_and, and_true]
        simp only [G_number]
        refine need_good g hn1 hm1 hz2 fun gs2 P2 A2 i2 j2 e1 e2 e3 _ _ _ => ?_
        obtain ⟨rfl, rfl, rfl⟩ := mkD_inj e1
        have e4 : n = i2 := Int.ofNat.inj (PyData.int.inj e2)
        have e5 : m = j2 := Int.ofNat.inj (PyData.int.inj e3)
        subst e4 e5
        refine ⟨gs, P, A, n, m, rfl, rfl, rfl, g, hn1, hm1, hz2, ?_⟩
        refine optQ_of (neD_fr _ _) ?_
        rw [decide_eq_true rfl]
        exact hK4 _ _ ⟨⟨_, _, rfl⟩, rfl⟩
      · obtain ⟨⟨b9, b10, rfl⟩, rfl⟩ := hI4
        exact hK3 _ _ ⟨⟨_, _, _, rfl⟩, rfl⟩
    · obtain ⟨⟨b8, b9, b10, rfl⟩, rfl⟩ := hI3
      exact hK2 _ _ ⟨⟨_, _, _, _, rfl⟩, rfl⟩
  obtain ⟨⟨b7, b8, b9, b10, rfl⟩, rfl⟩ := hI2
  try simp only [dIsNv, dRevO, dPar, dPar3, dTryB, bSeq, bIf, bCall, bNil, dAug, iR3, dMod0, xStar, dRepO, dExcA, dTryK, dIsx, lose, loseV, dSeq, dRet, dRetN, dIfS, dTst, dTru, dOp, dVar, dVarK, dC, dChain, dNot, dAnd, dOr, dAndE, dOrE, dNotE, dBoolE, dIf, dFn, dB, dTup, dLst, dO, xNil, xCons, dNext, dSet, dSetO, dRel, relE, dExpr, dCall, dCallO, dCons, dNil, dPurA, dAsg, gdName, gdNil, gdCons, gdTup, dForS, dCut, dCutO, dNoP, dPart, dCatO, dListO, dLc, wipeE, dApp, dIns, dSetIx, dRaise, dRetO, dRetOE, dCount, dRev, iL, iT, iS, iR1, iR2, iEL, iET, iZ, dYes, s_tb, s_tn, s_ti, s_tl, s_tt, s_dd, s_do, s_ll, s_lt, s_ls, s_ul, s_ut, s_isStr_none, s_isStr_bool, s_isStr_int, s_isStr_str, s_isStr_list, s_isStr_tuple, s_isTup_none, s_isTup_bool, s_isTup_int, s_isTup_str, s_isTup_list, s_isTup_tuple, s_isLst_none, s_isLst_bool, s_isLst_int, s_isLst_str, s_isLst_list, s_isLst_tuple, s_isInt_none, s_isInt_bool, s_isInt_int, s_isInt_str, s_isInt_list, s_isInt_tuple, s_isBool_none, s_isBool_bool, s_isBool_int, s_isBool_str, s_isBool_list, s_isBool_tuple, s_isN_none, s_isN_bool, s_isN_int, s_isN_str, s_isN_list, s_isN_tuple, s_is, s_isnt, s_xl, s_xt, s_xs, s_cl, s_ct, s_cs, s_add, s_sub, s_lti, s_lei, s_gti, s_gei, s_min, s_max, s_neg, s_abs, s_os, at0, at1, at2, eqD_int, neD_int, List.getElem?_cons_zero, List.getElem?_cons_succ, List.set_cons_zero, List.set_cons_succ, List.map_cons, List.map_nil, Bool.false_eq_true, Bool.not_true, Bool.not_false, ite_true, ite_false, if_true, if_false, true_and, and_true]
  refine ⟨le_dn rfl, by decide, ?_⟩
  refine dLc_draw (fun y => y.depth ≤ 60) 20 (le_dn rfl) (fun y T3 Ky Kn hy hT3 hk => ?_) (fun ys T3 hl2 hys hT3 => ?_)
  · try simp only [dIsNv, dRevO, dPar, dPar3, dTryB, bSeq, bIf, bCall, bNil, dAug, iR3, dMod0, xStar, dRepO, dExcA, dTryK, dIsx, lose, loseV, dSeq, dRet, dRetN, dIfS, dTst, dTru, dOp, dVar, dVarK, dC, dChain, dNot, dAnd, dOr, dAndE, dOrE, dNotE, dBoolE, dIf, dFn, dB, dTup, dLst, dO, xNil, xCons, dNext, dSet, dSetO, dRel, relE, dExpr, dCall, dCallO, dCons, dNil, dPurA, dAsg, gdName, gdNil, gdCons, gdTup, dForS, dCut, dCutO, dNoP, dPart, dCatO, dListO, dLc, wipeE, dApp, dIns, dSetIx, dRaise, dRetO, dRetOE, dCount, dRev, iL, iT, iS, iR1, iR2, iEL, iET, iZ, dYes, s_tb, s_tn, s_ti, s_tl, s_tt, s_dd, s_do, s_ll, s_lt, s_ls, s_ul, s_ut, s_isStr_none, s_isStr_bool, s_isStr_int, s_isStr_str, s_isStr_list, s_isStr_tuple, s_isTup_none, s_isTup_bool, s_isTup_int, s_isTup_str, s_isTup_list, s_isTup_tuple, s_isLst_none, s_isLst_bool, s_isLst_int, s_isLst_str, s_isLst_list, s_isLst_tuple, s_isInt_none, s_isInt_bool, s_isInt_int, s_isInt_str, s_isInt_list, s_isInt_tuple, s_isBool_none, s_isBool_bool, s_isBool_int, s_isBool_str, s_isBool_list, s_isBool_tuple, s_isN_none, s_isN_bool, s_isN_int, s_isN_str, s_isN_list, s_isN_tuple, s_is, s_isnt, s_xl, s_xt, s_xs, s_cl, s_ct, s_cs, s_add, s_sub, s_lti, s_lei, s_gti, s_gei, s_min, s_max, s_neg, s_abs, s_os, at0, at1, at2, eqD_int, neD_int, List.getElem?_cons_zero, List.getElem?_cons_succ, List.set_cons_zero, List.set_cons_succ, List.map_cons, List.map_nil, Bool.false_eq_true, Bool.not_true, Bool.not_false, ite_true, ite_false, if_true, if_false, true_and, and_true]
    exact ⟨gs, P, A, rfl, g, by omega, fun z T4 hz hT4 => hk _ _ hz hT4⟩
  refine optQ_of (addL (by rw [hl2]; exact le_dn rfl)) ?_
  have hall : ∀ z ∈ [mkD gs P A] ++ ys, z.depth ≤ 60 := fun z hz => by
    rcases List.mem_append.mp hz with hz | hz
    · rw [List.mem_singleton.mp hz]
      exact Nat.le_trans (dp_mk g) (by decide)
    · exact hys z hz
  try simp only [dIsNv, dRevO, dPar, dPar3, dTryB, bSeq, bIf, bCall, bNil, dAug, iR3, dMod0, xStar, dRepO, dExcA, dTryK, dIsx, lose, loseV, dSeq, dRet, dRetN, dIfS, dTst, dTru, dOp, dVar, dVarK, dC, dChain, dNot, dAnd, dOr, dAndE, dOrE, dNotE, dBoolE, dIf, dFn, dB, dTup, dLst, dO, xNil, xCons, dNext, dSet, dSetO, dRel, relE, dExpr, dCall, dCallO, dCons, dNil, dPurA, dAsg, gdName, gdNil, gdCons, gdTup, dForS, dCut, dCutO, dNoP, dPart, dCatO, dListO, dLc, wipeE, dApp, dIns, dSetIx, dRaise, dRetO, dRetOE, dCount, dRev, iL, iT, iS, iR1, iR2, iEL, iET, iZ, dYes, s_tb, s_tn, s_ti, s_tl, s_tt, s_dd, s_do, s_ll, s_lt, s_ls, s_ul, s_ut, s_isStr_none, s_isStr_bool, s_isStr_int, s_isStr_str, s_isStr_list, s_isStr_tuple, s_isTup_none, s_isTup_bool, s_isTup_int, s_isTup_str, s_isTup_list, s_isTup_tuple, s_isLst_none, s_isLst_bool, s_isLst_int, s_isLst_str, s_isLst_list, s_isLst_tuple, s_isInt_none, s_isInt_bool, s_isInt_int, s_isInt_str, s_isInt_list, s_isInt_tuple, s_isBool_none, s_isBool_bool, s_isBool_int, s_isBool_str, s_isBool_list, s_isBool_tuple, s_isN_none, s_isN_bool, s_isN_int, s_isN_str, s_isN_list, s_isN_tuple, s_is, s_isnt, s_xl, s_xt, s_xs, s_cl, s_ct, s_cs, s_add, s_sub, s_lti, s_lei, s_gti, s_gei, s_min, s_max, s_neg, s_abs, s_os, at0, at1, at2, eqD_int, neD_int, List.getElem?_cons_zero, List.getElem?_cons_succ, List.set_cons_zero, List.set_cons_succ, List.map_cons, List.map_nil, Bool.false_eq_true, Bool.not_true, Bool.not_false, ite_true, ite_false, if_true, if_false, true_and, and_true]
  refine dFor_ind (fun j E' T' => (∃ b11, E' = [.no, .pur, .d x, .d (mkD gs P A), .d (.str (mkD gs P A).shown), .d (.list (ns.map iN)), a6, b7, b8, b9, b10, b11]) ∧ T3 = T') ⟨⟨_, rfl⟩, rfl⟩ (fun j z E' T' K2 hz hI2 hK2 => ?_) (fun E' T' hI2 => ?_)
  · obtain ⟨⟨b11, rfl⟩, rfl⟩ := hI2
    have hz2 := hall z (List.mem_of_getElem? hz)
    try simp only [dIsNv, dRevO, dPar, dPar3, dTryB, bSeq, bIf, bCall, bNil, dAug, iR3, dMod0, xStar, dRepO, dExcA, dTryK, dIsx, lose, loseV, dSeq, dRet, dRetN, dIfS, dTst, dTru, dOp, dVar, dVarK, dC, dChain, dNot, dAnd, dOr, dAndE, dOrE, dNotE, dBoolE, dIf, dFn, dB, dTup, dLst, dO, xNil, xCons, dNext, dSet, dSetO, dRel, relE, dExpr, dCall, dCallO, dCons, dNil, dPurA, dAsg, gdName, gdNil, gdCons, gdTup, dForS, dCut, dCutO, dNoP, dPart, dCatO, dListO, dLc, wipeE, dApp, dIns, dSetIx, dRaise, dRetO, dRetOE, dCount, dRev, iL, iT, iS, iR1, iR2, iEL, iET, iZ, dYes, s_tb, s_tn, s_ti, s_tl, s_tt, s_dd, s_do, s_ll, s_lt, s_ls, s_ul, s_ut, s_isStr_none, s_isStr_bool, s_isStr_int, s_isStr_str, s_isStr_list, s_isStr_tuple, s_isTup_none, s_isTup_bool, s_isTup_int, s_isTup_str, s_isTup_list, s_isTup_tuple, s_isLst_none, s_isLst_bool, s_isLst_int, s_isLst_str, s_isLst_list, s_isLst_tuple, s_isInt_none, s_isInt_bool, s_isInt_int, s_isInt_str, s_isInt_list, s_isInt_tuple, s_isBool_none, s_isBool_bool, s_isBool_int, s_isBool_str, s_isBool_list, s_isBool_tuple, s_isN_none, s_isN_bool, s_isN_int, s_isN_str, s_isN_list, s_isN_tuple, s_is, s_isnt, s_xl, s_xt, s_xs, s_cl, s_ct, s_cs, s_add, s_sub, s_lti, s_lei, s_gti, s_gei, s_min, s_max, s_neg, s_abs, s_os, at0, at1, at2, eqD_int, neD_int, List.getElem?_cons_zero, List.getElem?_cons_succ, List.set_cons_zero, List.set_cons_succ, List.map_cons, List.map_nil, Bool.false_eq_true, Bool.not_true, Bool.not_false, ite_true, ite_false, if_true, if_false, true_and, and_true]
    refine ⟨hz2, ?_⟩
    refine optQ_of (mw_ne z) ?_
    exact hK2 _ _ ⟨⟨_, rfl⟩, rfl⟩
  obtain ⟨⟨b11, rfl⟩, rfl⟩ := hI2
  try simp only [dIsNv, dRevO, dPar, dPar3, dTryB, bSeq, bIf, bCall, bNil, dAug, iR3, dMod0, xStar, dRepO, dExcA, dTryK, dIsx, lose, loseV, dSeq, dRet, dRetN, dIfS, dTst, dTru, dOp, dVar, dVarK, dC, dChain, dNot, dAnd, dOr, dAndE, dOrE, dNotE, dBoolE, dIf, dFn, dB, dTup, dLst, dO, xNil, xCons, dNext, dSet, dSetO, dRel, relE, dExpr, dCall, dCallO, dCons, dNil, dPurA, dAsg, gdName, gdNil, gdCons, gdTup, dForS, dCut, dCutO, dNoP, dPart, dCatO, dListO, dLc, wipeE, dApp, dIns, dSetIx, dRaise, dRetO, dRetOE, dCount, dRev, iL, iT, iS, iR1, iR2, iEL, iET, iZ, dYes, s_tb, s_tn, s_ti, s_tl, s_tt, s_dd, s_do, s_ll, s_lt, s_ls, s_ul, s_ut, s_isStr_none, s_isStr_bool, s_isStr_int, s_isStr_str, s_isStr_list, s_isStr_tuple, s_isTup_none, s_isTup_bool, s_isTup_int, s_isTup_str, s_isTup_list, s_isTup_tuple, s_isLst_none, s_isLst_bool, s_isLst_int, s_isLst_str, s_isLst_list, s_isLst_tuple, s_isInt_none, s_isInt_bool, s_isInt_int, s_isInt_str, s_isInt_list, s_isInt_tuple, s_isBool_none, s_isBool_bool, s_isBool_int, s_isBool_str, s_isBool_list, s_isBool_tuple, s_isN_none, s_isN_bool, s_isN_int, s_isN_str, s_isN_list, s_isN_tuple, s_is, s_isnt, s_xl, s_xt, s_xs, s_cl, s_ct, s_cs, s_add, s_sub, s_lti, s_lei, s_gti, s_gei, s_min, s_max, s_neg, s_abs, s_os, at0, at1, at2, eqD_int, neD_int, List.getElem?_cons_zero, List.getElem?_cons_succ, List.set_cons_zero, List.set_cons_succ, List.map_cons, List.map_nil, Bool.false_eq_true, Bool.not_true, Bool.not_false, ite_true, ite_false, if_true, if_false, true_and, and_true]
  refine optQ_of (repr_mk g) ?_
  try simp only [dIsNv, dRevO, dPar, dPar3, dTryB, bSeq, bIf, bCall, bNil, dAug, iR3, dMod0, xStar, dRepO, dExcA, dTryK, dIsx, lose, loseV, dSeq, dRet, dRetN, dIfS, dTst, dTru, dOp, dVar, dVarK, dC, dChain, dNot, dAnd, dOr, dAndE, dOrE, dNotE, dBoolE, dIf, dFn, dB, dTup, dLst, dO, xNil, xCons, dNext, dSet, dSetO, dRel, relE, dExpr, dCall, dCallO, dCons, dNil, dPurA, dAsg, gdName, gdNil, gdCons, gdTup, dForS, dCut, dCutO, dNoP, dPart, dCatO, dListO, dLc, wipeE, dApp, dIns, dSetIx, dRaise, dRetO, dRetOE, dCount, dRev, iL, iT, iS, iR1, iR2, iEL, iET, iZ, dYes, s_tb, s_tn, s_ti, s_tl, s_tt, s_dd, s_do, s_ll, s_lt, s_ls, s_ul, s_ut, s_isStr_none, s_isStr_bool, s_isStr_int, s_isStr_str, s_isStr_list, s_isStr_tuple, s_isTup_none, s_isTup_bool, s_isTup_int, s_isTup_str, s_isTup_list, s_isTup_tuple, s_isLst_none, s_isLst_bool, s_isLst_int, s_isLst_str, s_isLst_list, s_isLst_tuple, s_isInt_none, s_isInt_bool, s_isInt_int, s_isInt_str, s_isInt_list, s_isInt_tuple, s_isBool_none, s_isBool_bool, s_isBool_int, s_isBool_str, s_isBool_list, s_isBool_tuple, s_isN_none, s_isN_bool, s_isN_int, s_isN_str, s_isN_list, s_isN_tuple, s_is, s_isnt, s_xl, s_xt, s_xs, s_cl, s_ct, s_cs, s_add, s_sub, s_lti, s_lei, s_gti, s_gei, s_min, s_max, s_neg, s_abs, s_os, at0, at1, at2, eqD_int, neD_int, List.getElem?_cons_zero, List.getElem?_cons_succ, List.set_cons_zero, List.set_cons_succ, List.map_cons, List.map_nil, Bool.false_eq_true, Bool.not_true, Bool.not_false, ite_true, ite_false, if_true, if_false, true_and, and_true]
  refine optQ_of (ne_str _) ?_
  exact hK _ _ ⟨⟨_, _, _, _, _, _, _, _, _, _, rfl⟩, by omega⟩

end
end Dv
set_option Elab.async false
set_option linter.all false
set_option maxRecDepth 100000
set_option maxHeartbeats 8000000
namespace Dv
open PySem PySem.Spec PyProof.Rows L2
/-! ### what the top has left -/
theorem tab_mk {K : PySem.W.Frag} {x : Str} {f c T : Addr} {oc e : Value} {od dd : Option Addr} {fd : FuncData} {sl sl2 : Array (Option Value)} {vs : Array Value} (a : PySem.W.nsIn K mainGlobals x = some (some (.ref f))) (l : K.lookup f = some ⟨oc, od, .func fd, sl⟩) (hc : fd.code = .ref c) (lc : K.lookup c = some ⟨e, dd, .fields vs, sl2⟩) (hv : vs[11]? = some (.ref T)) : PySem.W.tabIn K x = some (c, T) := by
  unfold PySem.W.tabIn
  simp only [a, l, hc, lc, hv]
theorem all_mk {P : Program} {w : World} {K : PySem.W.Frag} {h : Heap} {q0 : Program} {mg : Str → Option Value} {fa f0 f1 f2 f3 f4 f5 f6 f7 f8 f9 f10 f11 f12 f13 f14 f15 f16 f17 f18 f19 f20 f21 f22 f23 f24 f25 f26 f27 f28 f29 f30 f31 C0 cM cT cW cc_14 TT_14 cc_16 TT_16 cc_18 TT_18 cc_19 TT_19 cc_23 TT_23 cc_25 TT_25 : Addr} (X : K.In h) (G : h.Ns mainGlobals mg) (hfa : mg "law" = some (.ref fa)) (TB : Cv.TabsOf q0 K h)
    {od0 an0 od1 an1 od2 an2 od3 an3 od4 an4 od5 an5 od6 an6 od7 an7 od8 an8 od9 an9 od10 an10 od11 an11 od12 an12 od13 an13 od14 an14 od15 an15 od16 an16 od17 an17 od18 an18 od19 an19 od20 an20 od21 an21 od22 an22 od23 an23 od24 an24 od25 an25 od26 an26 od27 an27 od28 an28 od29 an29 od30 an30 od31 an31 ddC14 ddC16 ddC18 ddC19 ddC23 ddC25 : Option Addr} {sl0 sl1 sl2 sl3 sl4 sl5 sl6 sl7 sl8 sl9 sl10 sl11 sl12 sl13 sl14 sl15 sl16 sl17 sl18 sl19 sl20 sl21 sl22 sl23 sl24 sl25 sl26 sl27 sl28 sl29 sl30 sl31 slC14 slC16 slC18 slC19 slC23 slC25 : Array (Option Value)} {oc0 kV0 dc0 pm0 ct0 oc1 kV1 dc1 pm1 ct1 oc2 kV2 dc2 pm2 ct2 oc3 kV3 dc3 pm3 ct3 oc4 kV4 dc4 pm4 ct4 oc5 kV5 dc5 pm5 ct5 oc6 kV6 dc6 pm6 ct6 oc7 kV7 dc7 pm7 ct7 oc8 kV8 dc8 pm8 ct8 oc9 kV9 dc9 pm9 ct9 oc10 kV10 dc10 pm10 ct10 oc11 kV11 dc11 pm11 ct11 oc12 kV12 dc12 pm12 ct12 oc13 kV13 dc13 pm13 ct13 oc14 kV14 dc14 pm14 ct14 oc15 kV15 dc15 pm15 ct15 oc16 kV16 dc16 pm16 ct16 oc17 kV17 dc17 pm17 ct17 oc18 kV18 dc18 pm18 ct18 oc19 kV19 dc19 pm19 ct19 oc20 kV20 dc20 pm20 ct20 oc21 kV21 dc21 pm21 ct21 oc22 kV22 dc22 pm22 ct22 oc23 kV23 dc23 pm23 ct23 oc24 kV24 dc24 pm24 ct24 oc25 kV25 dc25 pm25 ct25 oc26 kV26 dc26 pm26 ct26 oc27 kV27 dc27 pm27 ct27 oc28 kV28 dc28 pm28 ct28 oc29 kV29 dc29 pm29 ct29 oc30 kV30 dc30 pm30 ct30 oc31 kV31 dc31 pm31 ct31 cd0 cd1 cd2 cd3 cd4 cd5 cd6 cd7 cd8 cd9 cd10 cd11 cd12 cd13 cd15 cd17 cd20 cd21 cd22 cd24 cd26 cd27 cd28 cd29 cd30 cd31 eC14 eC16 eC18 eC19 eC23 eC25 : Value} {tk0 tk1 tk2 tk3 tk4 tk5 tk6 : Tok} {vC14 vC16 vC18 vC19 vC23 vC25 : Array Value}
    (a0 : PySem.W.nsIn K mainGlobals "_law_draw" = some (some (.ref f0)))
    (l0 : K.lookup f0 = some ⟨oc0, od0, .func (PySem.W.fnOf "_law_draw" "_law_draw" (defArgs Cv.sDraw) (defBody Cv.sDraw) (defScope Cv.sDraw) .none kV0 dc0 pm0 an0 cd0 ct0), sl0⟩)
    (c0x : PySem.W.codeIn K cd0 "_law_draw" = true)
    (k0 : PySem.W.keepIn K (.ref f0) = true)
    (a1 : PySem.W.nsIn K mainGlobals "_law_pick" = some (some (.ref f1)))
    (l1 : K.lookup f1 = some ⟨oc1, od1, .func (PySem.W.fnOf "_law_pick" "_law_pick" (defArgs s_Lpick) (defBody s_Lpick) (defScope s_Lpick) .none kV1 dc1 pm1 an1 cd1 ct1), sl1⟩)
    (c1x : PySem.W.codeIn K cd1 "_law_pick" = true)
    (k1 : PySem.W.keepIn K (.ref f1) = true)
    (a2 : PySem.W.nsIn K mainGlobals "_law_bent" = some (some (.ref f2)))
    (l2 : K.lookup f2 = some ⟨oc2, od2, .func (PySem.W.fnOf "_law_bent" "_law_bent" (defArgs s_Lbent) (defBody s_Lbent) (defScope s_Lbent) .none kV2 dc2 pm2 an2 cd2 ct2), sl2⟩)
    (c2x : PySem.W.codeIn K cd2 "_law_bent" = true)
    (k2 : PySem.W.keepIn K (.ref f2) = true)
    (a3 : PySem.W.nsIn K mainGlobals "_law_market_by" = some (some (.ref f3)))
    (l3 : K.lookup f3 = some ⟨oc3, od3, .func (PySem.W.fnOf "_law_market_by" "_law_market_by" (defArgs s_Lmarketby) (defBody s_Lmarketby) (defScope s_Lmarketby) .none kV3 dc3 pm3 an3 cd3 ct3), sl3⟩)
    (c3x : PySem.W.codeIn K cd3 "_law_market_by" = true)
    (k3 : PySem.W.keepIn K (.ref f3) = true)
    (a4 : PySem.W.nsIn K mainGlobals "_law_lowest" = some (some (.ref f4)))
    (l4 : K.lookup f4 = some ⟨oc4, od4, .func (PySem.W.fnOf "_law_lowest" "_law_lowest" (defArgs s_Llowb) (defBody s_Llowb) (defScope s_Llowb) .none kV4 dc4 pm4 an4 cd4 ct4), sl4⟩)
    (c4x : PySem.W.codeIn K cd4 "_law_lowest" = true)
    (k4 : PySem.W.keepIn K (.ref f4) = true)
    (a5 : PySem.W.nsIn K mainGlobals "_law_sum" = some (some (.ref f5)))
    (l5 : K.lookup f5 = some ⟨oc5, od5, .func (PySem.W.fnOf "_law_sum" "_law_sum" (defArgs s_Lsum) (defBody s_Lsum) (defScope s_Lsum) .none kV5 dc5 pm5 an5 cd5 ct5), sl5⟩)
    (c5x : PySem.W.codeIn K cd5 "_law_sum" = true)
    (k5 : PySem.W.keepIn K (.ref f5) = true)
    (a6 : PySem.W.nsIn K mainGlobals "_law_number" = some (some (.ref f6)))
    (l6 : K.lookup f6 = some ⟨oc6, od6, .func (PySem.W.fnOf "_law_number" "_law_number" (defArgs s_Lnumber) (defBody s_Lnumber) (defScope s_Lnumber) .none kV6 dc6 pm6 an6 cd6 ct6), sl6⟩)
    (c6x : PySem.W.codeIn K cd6 "_law_number" = true)
    (k6 : PySem.W.keepIn K (.ref f6) = true)
    (a7 : PySem.W.nsIn K mainGlobals "_law_is_name" = some (some (.ref f7)))
    (l7 : K.lookup f7 = some ⟨oc7, od7, .func (PySem.W.fnOf "_law_is_name" "_law_is_name" (defArgs s_Lisname) (defBody s_Lisname) (defScope s_Lisname) .none kV7 dc7 pm7 an7 cd7 ct7), sl7⟩)
    (c7x : PySem.W.codeIn K cd7 "_law_is_name" = true)
    (k7 : PySem.W.keepIn K (.ref f7) = true)
    (a8 : PySem.W.nsIn K mainGlobals "_law_is_whole" = some (some (.ref f8)))
    (l8 : K.lookup f8 = some ⟨oc8, od8, .func (PySem.W.fnOf "_law_is_whole" "_law_is_whole" (defArgs s_Liswhole) (defBody s_Liswhole) (defScope s_Liswhole) .none kV8 dc8 pm8 an8 cd8 ct8), sl8⟩)
    (c8x : PySem.W.codeIn K cd8 "_law_is_whole" = true)
    (k8 : PySem.W.keepIn K (.ref f8) = true)
    (a9 : PySem.W.nsIn K mainGlobals "_law_lines_wrong" = some (some (.ref f9)))
    (l9 : K.lookup f9 = some ⟨oc9, od9, .func (PySem.W.fnOf "_law_lines_wrong" "_law_lines_wrong" (defArgs s_Llineswrong) (defBody s_Llineswrong) (defScope s_Llineswrong) .none kV9 dc9 pm9 an9 cd9 ct9), sl9⟩)
    (c9x : PySem.W.codeIn K cd9 "_law_lines_wrong" = true)
    (k9 : PySem.W.keepIn K (.ref f9) = true)
    (a10 : PySem.W.nsIn K mainGlobals "_law_wrong" = some (some (.ref f10)))
    (l10 : K.lookup f10 = some ⟨oc10, od10, .func (PySem.W.fnOf "_law_wrong" "_law_wrong" (defArgs s_Lwrong) (defBody s_Lwrong) (defScope s_Lwrong) .none kV10 dc10 pm10 an10 cd10 ct10), sl10⟩)
    (c10x : PySem.W.codeIn K cd10 "_law_wrong" = true)
    (k10 : PySem.W.keepIn K (.ref f10) = true)
    (a11 : PySem.W.nsIn K mainGlobals "is_list_of" = some (some (.ref f11)))
    (l11 : K.lookup f11 = some ⟨oc11, od11, .func (PySem.W.fnOf "is_list_of" "is_list_of" (defArgs s_islistof) (defBody s_islistof) (defScope s_islistof) .none kV11 dc11 pm11 an11 cd11 ct11), sl11⟩)
    (c11x : PySem.W.codeIn K cd11 "is_list_of" = true)
    (k11 : PySem.W.keepIn K (.ref f11) = true)
    (a12 : PySem.W.nsIn K mainGlobals "is_whole" = some (some (.ref f12)))
    (l12 : K.lookup f12 = some ⟨oc12, od12, .func (PySem.W.fnOf "is_whole" "is_whole" (defArgs s_iswhole) (defBody s_iswhole) (defScope s_iswhole) .none kV12 dc12 pm12 an12 cd12 ct12), sl12⟩)
    (c12x : PySem.W.codeIn K cd12 "is_whole" = true)
    (k12 : PySem.W.keepIn K (.ref f12) = true)
    (a13 : PySem.W.nsIn K mainGlobals "is_whole_within" = some (some (.ref f13)))
    (l13 : K.lookup f13 = some ⟨oc13, od13, .func (PySem.W.fnOf "is_whole_within" "is_whole_within" (defArgs s_iswholewithin) (defBody s_iswholewithin) (defScope s_iswholewithin) .none kV13 dc13 pm13 an13 cd13 ct13), sl13⟩)
    (c13x : PySem.W.codeIn K cd13 "is_whole_within" = true)
    (k13 : PySem.W.keepIn K (.ref f13) = true)
    (a14 : PySem.W.nsIn K mainGlobals "are_amounts" = some (some (.ref f14)))
    (l14 : K.lookup f14 = some ⟨oc14, od14, .func (PySem.W.fnOf "are_amounts" "are_amounts" (defArgs s_areamounts) (defBody s_areamounts) (defScope s_areamounts) .none kV14 dc14 pm14 an14 (.ref cc_14) ct14), sl14⟩)
    (c14x : PySem.W.codeIn K (.ref cc_14) "are_amounts" = true)
    (k14 : PySem.W.keepIn K (.ref f14) = true)
    (lc14 : K.lookup cc_14 = some ⟨eC14, ddC14, .fields vC14, slC14⟩)
    (v11_14 : vC14[11]? = some (.ref TT_14))
    (rq14 : ((PyProof.Rows.recsOf q0).find? fun e => e.name == Str.ofString "are_amounts").isSome = true)
    (a15 : PySem.W.nsIn K mainGlobals "is_small_letter" = some (some (.ref f15)))
    (l15 : K.lookup f15 = some ⟨oc15, od15, .func (PySem.W.fnOf "is_small_letter" "is_small_letter" (defArgs s_issmallletter) (defBody s_issmallletter) (defScope s_issmallletter) .none kV15 dc15 pm15 an15 cd15 ct15), sl15⟩)
    (c15x : PySem.W.codeIn K cd15 "is_small_letter" = true)
    (k15 : PySem.W.keepIn K (.ref f15) = true)
    (a16 : PySem.W.nsIn K mainGlobals "is_word" = some (some (.ref f16)))
    (l16 : K.lookup f16 = some ⟨oc16, od16, .func (PySem.W.fnOf "is_word" "is_word" (defArgs s_isword) (defBody s_isword) (defScope s_isword) .none kV16 dc16 pm16 an16 (.ref cc_16) ct16), sl16⟩)
    (c16x : PySem.W.codeIn K (.ref cc_16) "is_word" = true)
    (k16 : PySem.W.keepIn K (.ref f16) = true)
    (lc16 : K.lookup cc_16 = some ⟨eC16, ddC16, .fields vC16, slC16⟩)
    (v11_16 : vC16[11]? = some (.ref TT_16))
    (rq16 : ((PyProof.Rows.recsOf q0).find? fun e => e.name == Str.ofString "is_word").isSome = true)
    (a17 : PySem.W.nsIn K mainGlobals "is_name" = some (some (.ref f17)))
    (l17 : K.lookup f17 = some ⟨oc17, od17, .func (PySem.W.fnOf "is_name" "is_name" (defArgs s_isname) (defBody s_isname) (defScope s_isname) .none kV17 dc17 pm17 an17 cd17 ct17), sl17⟩)
    (c17x : PySem.W.codeIn K cd17 "is_name" = true)
    (k17 : PySem.W.keepIn K (.ref f17) = true)
    (a18 : PySem.W.nsIn K mainGlobals "are_goods" = some (some (.ref f18)))
    (l18 : K.lookup f18 = some ⟨oc18, od18, .func (PySem.W.fnOf "are_goods" "are_goods" (defArgs s_aregoods) (defBody s_aregoods) (defScope s_aregoods) .none kV18 dc18 pm18 an18 (.ref cc_18) ct18), sl18⟩)
    (c18x : PySem.W.codeIn K (.ref cc_18) "are_goods" = true)
    (k18 : PySem.W.keepIn K (.ref f18) = true)
    (lc18 : K.lookup cc_18 = some ⟨eC18, ddC18, .fields vC18, slC18⟩)
    (v11_18 : vC18[11]? = some (.ref TT_18))
    (rq18 : ((PyProof.Rows.recsOf q0).find? fun e => e.name == Str.ofString "are_goods").isSome = true)
    (a19 : PySem.W.nsIn K mainGlobals "are_prices" = some (some (.ref f19)))
    (l19 : K.lookup f19 = some ⟨oc19, od19, .func (PySem.W.fnOf "are_prices" "are_prices" (defArgs s_areprices) (defBody s_areprices) (defScope s_areprices) .none kV19 dc19 pm19 an19 (.ref cc_19) ct19), sl19⟩)
    (c19x : PySem.W.codeIn K (.ref cc_19) "are_prices" = true)
    (k19 : PySem.W.keepIn K (.ref f19) = true)
    (lc19 : K.lookup cc_19 = some ⟨eC19, ddC19, .fields vC19, slC19⟩)
    (v11_19 : vC19[11]? = some (.ref TT_19))
    (rq19 : ((PyProof.Rows.recsOf q0).find? fun e => e.name == Str.ofString "are_prices").isSome = true)
    (a20 : PySem.W.nsIn K mainGlobals "is_tuple_of" = some (some (.ref f20)))
    (l20 : K.lookup f20 = some ⟨oc20, od20, .func (PySem.W.fnOf "is_tuple_of" "is_tuple_of" (defArgs s_istupleof) (defBody s_istupleof) (defScope s_istupleof) .none kV20 dc20 pm20 an20 cd20 ct20), sl20⟩)
    (c20x : PySem.W.codeIn K cd20 "is_tuple_of" = true)
    (k20 : PySem.W.keepIn K (.ref f20) = true)
    (a21 : PySem.W.nsIn K mainGlobals "is_market_by_form" = some (some (.ref f21)))
    (l21 : K.lookup f21 = some ⟨oc21, od21, .func (PySem.W.fnOf "is_market_by_form" "is_market_by_form" (defArgs s_ismarketbyform) (defBody s_ismarketbyform) (defScope s_ismarketbyform) .none kV21 dc21 pm21 an21 cd21 ct21), sl21⟩)
    (c21x : PySem.W.codeIn K cd21 "is_market_by_form" = true)
    (k21 : PySem.W.keepIn K (.ref f21) = true)
    (a22 : PySem.W.nsIn K mainGlobals "market_wrong" = some (some (.ref f22)))
    (l22 : K.lookup f22 = some ⟨oc22, od22, .func (PySem.W.fnOf "market_wrong" "market_wrong" (defArgs s_marketwrong) (defBody s_marketwrong) (defScope s_marketwrong) .none kV22 dc22 pm22 an22 cd22 ct22), sl22⟩)
    (c22x : PySem.W.codeIn K cd22 "market_wrong" = true)
    (k22 : PySem.W.keepIn K (.ref f22) = true)
    (a23 : PySem.W.nsIn K mainGlobals "need_way" = some (some (.ref f23)))
    (l23 : K.lookup f23 = some ⟨oc23, od23, .func (PySem.W.fnOf "need_way" "need_way" (defArgs s_needway) (defBody s_needway) (defScope s_needway) .none kV23 dc23 pm23 an23 (.ref cc_23) ct23), sl23⟩)
    (c23x : PySem.W.codeIn K (.ref cc_23) "need_way" = true)
    (k23 : PySem.W.keepIn K (.ref f23) = true)
    (lc23 : K.lookup cc_23 = some ⟨eC23, ddC23, .fields vC23, slC23⟩)
    (v11_23 : vC23[11]? = some (.ref TT_23))
    (rq23 : ((PyProof.Rows.recsOf q0).find? fun e => e.name == Str.ofString "need_way").isSome = true)
    (a24 : PySem.W.nsIn K mainGlobals "amounts_by" = some (some (.ref f24)))
    (l24 : K.lookup f24 = some ⟨oc24, od24, .func (PySem.W.fnOf "amounts_by" "amounts_by" (defArgs s_amountsby) (defBody s_amountsby) (defScope s_amountsby) .none kV24 dc24 pm24 an24 cd24 ct24), sl24⟩)
    (c24x : PySem.W.codeIn K cd24 "amounts_by" = true)
    (k24 : PySem.W.keepIn K (.ref f24) = true)
    (a25 : PySem.W.nsIn K mainGlobals "come_to_at" = some (some (.ref f25)))
    (l25 : K.lookup f25 = some ⟨oc25, od25, .func (PySem.W.fnOf "come_to_at" "come_to_at" (defArgs s_cometoat) (defBody s_cometoat) (defScope s_cometoat) .none kV25 dc25 pm25 an25 (.ref cc_25) ct25), sl25⟩)
    (c25x : PySem.W.codeIn K (.ref cc_25) "come_to_at" = true)
    (k25 : PySem.W.keepIn K (.ref f25) = true)
    (lc25 : K.lookup cc_25 = some ⟨eC25, ddC25, .fields vC25, slC25⟩)
    (v11_25 : vC25[11]? = some (.ref TT_25))
    (rq25 : ((PyProof.Rows.recsOf q0).find? fun e => e.name == Str.ofString "come_to_at").isSome = true)
    (a26 : PySem.W.nsIn K mainGlobals "greatest_divisor" = some (some (.ref f26)))
    (l26 : K.lookup f26 = some ⟨oc26, od26, .func (PySem.W.fnOf "greatest_divisor" "greatest_divisor" (defArgs s_greatestdivisor) (defBody s_greatestdivisor) (defScope s_greatestdivisor) .none kV26 dc26 pm26 an26 cd26 ct26), sl26⟩)
    (c26x : PySem.W.codeIn K cd26 "greatest_divisor" = true)
    (k26 : PySem.W.keepIn K (.ref f26) = true)
    (a27 : PySem.W.nsIn K mainGlobals "fraction" = some (some (.ref f27)))
    (l27 : K.lookup f27 = some ⟨oc27, od27, .func (PySem.W.fnOf "fraction" "fraction" (defArgs s_fraction) (defBody s_fraction) (defScope s_fraction) .none kV27 dc27 pm27 an27 cd27 ct27), sl27⟩)
    (c27x : PySem.W.codeIn K cd27 "fraction" = true)
    (k27 : PySem.W.keepIn K (.ref f27) = true)
    (a28 : PySem.W.nsIn K mainGlobals "number_of" = some (some (.ref f28)))
    (l28 : K.lookup f28 = some ⟨oc28, od28, .func (PySem.W.fnOf "number_of" "number_of" (defArgs s_numberof) (defBody s_numberof) (defScope s_numberof) .none kV28 dc28 pm28 an28 cd28 ct28), sl28⟩)
    (c28x : PySem.W.codeIn K cd28 "number_of" = true)
    (k28 : PySem.W.keepIn K (.ref f28) = true)
    (a29 : PySem.W.nsIn K mainGlobals "number" = some (some (.ref f29)))
    (l29 : K.lookup f29 = some ⟨oc29, od29, .func (PySem.W.fnOf "number" "number" (defArgs s_number) (defBody s_number) (defScope s_number) .none kV29 dc29 pm29 an29 cd29 ct29), sl29⟩)
    (c29x : PySem.W.codeIn K cd29 "number" = true)
    (k29 : PySem.W.keepIn K (.ref f29) = true)
    (a30 : PySem.W.nsIn K mainGlobals "_law_purse_by" = some (some (.ref f30)))
    (l30 : K.lookup f30 = some ⟨oc30, od30, .func (PySem.W.fnOf "_law_purse_by" "_law_purse_by" (defArgs Cv.sPurse) (defBody Cv.sPurse) (defScope Cv.sPurse) .none kV30 dc30 pm30 an30 cd30 ct30), sl30⟩)
    (c30x : PySem.W.codeIn K cd30 "_law_purse_by" = true)
    (k30 : PySem.W.keepIn K (.ref f30) = true)
    (a31 : PySem.W.nsIn K mainGlobals "law" = some (some (.ref f31)))
    (l31 : K.lookup f31 = some ⟨oc31, od31, .func (PySem.W.fnOf "law" "law" (defArgs s_law) (defBody s_law) (defScope s_law) .none kV31 dc31 pm31 an31 cd31 ct31), sl31⟩)
    (c31x : PySem.W.codeIn K cd31 "law" = true)
    (k31 : PySem.W.keepIn K (.ref f31) = true)
    (m0 : PySem.W.nsIn K mainGlobals "MOST_AMOUNT" = some (some (.int 1000000 tk0)))
    (m1 : PySem.W.nsIn K mainGlobals "MOST_GOODS" = some (some (.int 8 tk1)))
    (m2 : PySem.W.nsIn K mainGlobals "MOST_NAME" = some (some (.int 8 tk2)))
    (m3 : PySem.W.nsIn K mainGlobals "MOST_PRICE" = some (some (.int 1000000 tk3)))
    (m4 : PySem.W.nsIn K mainGlobals "MOST_TIMES" = some (some (.int 24 tk4)))
    (m5 : PySem.W.nsIn K mainGlobals "NEW" = some (some (.str "new" tk5)))
    (m6 : PySem.W.nsIn K mainGlobals "OLD" = some (some (.str "old" tk6)))
    (z_abs : PySem.W.nsIn K mainGlobals "abs" = some none)
    (z_all : PySem.W.nsIn K mainGlobals "all" = some none)
    (z_bool : PySem.W.nsIn K mainGlobals "bool" = some none)
    (z_enumerate : PySem.W.nsIn K mainGlobals "enumerate" = some none)
    (z_int : PySem.W.nsIn K mainGlobals "int" = some none)
    (z_isinstance : PySem.W.nsIn K mainGlobals "isinstance" = some none)
    (z_len : PySem.W.nsIn K mainGlobals "len" = some none)
    (z_list : PySem.W.nsIn K mainGlobals "list" = some none)
    (z_max : PySem.W.nsIn K mainGlobals "max" = some none)
    (z_range : PySem.W.nsIn K mainGlobals "range" = some none)
    (z_repr : PySem.W.nsIn K mainGlobals "repr" = some none)
    (z_set : PySem.W.nsIn K mainGlobals "set" = some none)
    (z_str : PySem.W.nsIn K mainGlobals "str" = some none)
    (z_sum : PySem.W.nsIn K mainGlobals "sum" = some none)
    (z_tuple : PySem.W.nsIn K mainGlobals "tuple" = some none)
    (z_zip : PySem.W.nsIn K mainGlobals "zip" = some none)
    (q_C0 : PySem.W.nsIn K mainGlobals "CountError" = some (some (.ref C0)))
    (q_cM : PySem.W.nsIn K mainGlobals "NoMarket" = some (some (.ref cM)))
    (q_cT : PySem.W.nsIn K mainGlobals "NoTime" = some (some (.ref cT)))
    (q_cW : PySem.W.nsIn K mainGlobals "NoWay" = some (some (.ref cW)))
    (x_cM : PySem.W.excIn K cM [.type "ValueError", .type "Exception", .type "BaseException", .type "object"] "ValueError.__new__" = true)
    (xk_cM : PySem.W.keepIn K (.ref cM) = true)
    (xb_cM : PySem.W.subIn K (.ref cM) (.type "BaseException") = some true)
    (xt_cM : PySem.W.typeIn K (.ref cM) = some (.type "type"))
    (x_cT : PySem.W.excIn K cT [.type "ValueError", .type "Exception", .type "BaseException", .type "object"] "ValueError.__new__" = true)
    (xk_cT : PySem.W.keepIn K (.ref cT) = true)
    (xb_cT : PySem.W.subIn K (.ref cT) (.type "BaseException") = some true)
    (xt_cT : PySem.W.typeIn K (.ref cT) = some (.type "type"))
    (x_cW : PySem.W.excIn K cW [.type "ValueError", .type "Exception", .type "BaseException", .type "object"] "ValueError.__new__" = true)
    (xk_cW : PySem.W.keepIn K (.ref cW) = true)
    (xb_cW : PySem.W.subIn K (.ref cW) (.type "BaseException") = some true)
    (xt_cW : PySem.W.typeIn K (.ref cW) = some (.type "type"))
    (e0 : PySem.W.subIn K (.ref C0) (.type "BaseException") = some true)
    (d0 : PySem.W.hasDictIn K C0 = true)
    (t0 : PySem.W.typeIn K (.ref C0) = some (.type "type"))
    (hn : PySem.W.specialIn K (.builtin "object.__class__") "__get__" = some (some (.builtin "getset_descriptor.__get__")))
    (ht : PySem.W.takesIn K (.builtin "object.__class__") = some true)
    : Cv.LawT P w K 11 63 "_law_script" mg fa h := by
  have e := hfa.symm.trans (PySem.W.mg_of X G a31)
  cases e
  have F0 := fun_mk (st := Cv.sDraw) l0 c0x k0
  have b0 := F0.binds (ps := ["_law_purse", "_law_out_of"]) fun _ _ _ _ _ _ us hl => match us, hl with | [_, _], _ => rfl
  have g0 := PySem.W.mg_of X G a0
  have F1 := fun_mk (st := s_Lpick) l1 c1x k1
  have b1 := F1.binds (ps := ["_law_purse", "_law_some"]) fun _ _ _ _ _ _ us hl => match us, hl with | [_, _], _ => rfl
  have g1 := PySem.W.mg_of X G a1
  have F2 := fun_mk (st := s_Lbent) l2 c2x k2
  have b2 := F2.binds (ps := ["_law_purse", "_law_market"]) fun _ _ _ _ _ _ us hl => match us, hl with | [_, _], _ => rfl
  have g2 := PySem.W.mg_of X G a2
  have F3 := fun_mk (st := s_Lmarketby) l3 c3x k3
  have b3 := F3.binds (ps := ["_law_purse", "_law_most"]) fun _ _ _ _ _ _ us hl => match us, hl with | [_, _], _ => rfl
  have g3 := PySem.W.mg_of X G a3
  have F4 := fun_mk (st := s_Llowb) l4 c4x k4
  have b4 := F4.binds (ps := ["_law_top", "_law_bottom"]) fun _ _ _ _ _ _ us hl => match us, hl with | [_, _], _ => rfl
  have g4 := PySem.W.mg_of X G a4
  have F5 := fun_mk (st := s_Lsum) l5 c5x k5
  have b5 := F5.binds (ps := ["_law_market", "_law_k", "_law_amounts_here"]) fun _ _ _ _ _ _ us hl => match us, hl with | [_, _, _], _ => rfl
  have g5 := PySem.W.mg_of X G a5
  have F6 := fun_mk (st := s_Lnumber) l6 c6x k6
  have b6 := F6.binds (ps := ["_law_market", "_law_one", "_law_other", "_law_way_here"]) fun _ _ _ _ _ _ us hl => match us, hl with | [_, _, _, _], _ => rfl
  have g6 := PySem.W.mg_of X G a6
  have F7 := fun_mk (st := s_Lisname) l7 c7x k7
  have b7 := F7.binds (ps := ["_law_thing"]) fun _ _ _ _ _ _ us hl => match us, hl with | [_], _ => rfl
  have g7 := PySem.W.mg_of X G a7
  have F8 := fun_mk (st := s_Liswhole) l8 c8x k8
  have b8 := F8.binds (ps := ["_law_thing"]) fun _ _ _ _ _ _ us hl => match us, hl with | [_], _ => rfl
  have g8 := PySem.W.mg_of X G a8
  have F9 := fun_mk (st := s_Llineswrong) l9 c9x k9
  have b9 := F9.binds (ps := ["_law_rows", "_law_many", "_law_least"]) fun _ _ _ _ _ _ us hl => match us, hl with | [_, _, _], _ => rfl
  have g9 := PySem.W.mg_of X G a9
  have F10 := fun_mk (st := s_Lwrong) l10 c10x k10
  have b10 := F10.binds (ps := ["_law_thing"]) fun _ _ _ _ _ _ us hl => match us, hl with | [_], _ => rfl
  have g10 := PySem.W.mg_of X G a10
  have F11 := fun_mk (st := s_islistof) l11 c11x k11
  have b11 := F11.binds (ps := ["thing", "many"]) fun _ _ _ _ _ _ us hl => match us, hl with | [_, _], _ => rfl
  have g11 := PySem.W.mg_of X G a11
  have F12 := fun_mk (st := s_iswhole) l12 c12x k12
  have b12 := F12.binds (ps := ["thing"]) fun _ _ _ _ _ _ us hl => match us, hl with | [_], _ => rfl
  have g12 := PySem.W.mg_of X G a12
  have F13 := fun_mk (st := s_iswholewithin) l13 c13x k13
  have b13 := F13.binds (ps := ["thing", "least", "most"]) fun _ _ _ _ _ _ us hl => match us, hl with | [_, _, _], _ => rfl
  have g13 := PySem.W.mg_of X G a13
  have FC14 : FunC K "are_amounts" "are_amounts" s_areamounts f14 cc_14 _ := ⟨⟨_, _, _, _, _, _, _, _, rfl, l14, c14x⟩, k14⟩
  have tI14 : PySem.W.tabIn K "are_amounts" = some (cc_14, TT_14) := tab_mk a14 l14 rfl lc14 v11_14
  have tB14 := TB _ _ _ rq14 tI14
  have F14 := fun_mk (st := s_areamounts) l14 c14x k14
  have b14 := F14.binds (ps := ["thing", "many"]) fun _ _ _ _ _ _ us hl => match us, hl with | [_, _], _ => rfl
  have g14 := PySem.W.mg_of X G a14
  have F15 := fun_mk (st := s_issmallletter) l15 c15x k15
  have b15 := F15.binds (ps := ["sign"]) fun _ _ _ _ _ _ us hl => match us, hl with | [_], _ => rfl
  have g15 := PySem.W.mg_of X G a15
  have FC16 : FunC K "is_word" "is_word" s_isword f16 cc_16 _ := ⟨⟨_, _, _, _, _, _, _, _, rfl, l16, c16x⟩, k16⟩
  have tI16 : PySem.W.tabIn K "is_word" = some (cc_16, TT_16) := tab_mk a16 l16 rfl lc16 v11_16
  have tB16 := TB _ _ _ rq16 tI16
  have F16 := fun_mk (st := s_isword) l16 c16x k16
  have b16 := F16.binds (ps := ["thing", "most"]) fun _ _ _ _ _ _ us hl => match us, hl with | [_, _], _ => rfl
  have g16 := PySem.W.mg_of X G a16
  have F17 := fun_mk (st := s_isname) l17 c17x k17
  have b17 := F17.binds (ps := ["thing"]) fun _ _ _ _ _ _ us hl => match us, hl with | [_], _ => rfl
  have g17 := PySem.W.mg_of X G a17
  have FC18 : FunC K "are_goods" "are_goods" s_aregoods f18 cc_18 _ := ⟨⟨_, _, _, _, _, _, _, _, rfl, l18, c18x⟩, k18⟩
  have tI18 : PySem.W.tabIn K "are_goods" = some (cc_18, TT_18) := tab_mk a18 l18 rfl lc18 v11_18
  have tB18 := TB _ _ _ rq18 tI18
  have F18 := fun_mk (st := s_aregoods) l18 c18x k18
  have b18 := F18.binds (ps := ["thing"]) fun _ _ _ _ _ _ us hl => match us, hl with | [_], _ => rfl
  have g18 := PySem.W.mg_of X G a18
  have FC19 : FunC K "are_prices" "are_prices" s_areprices f19 cc_19 _ := ⟨⟨_, _, _, _, _, _, _, _, rfl, l19, c19x⟩, k19⟩
  have tI19 : PySem.W.tabIn K "are_prices" = some (cc_19, TT_19) := tab_mk a19 l19 rfl lc19 v11_19
  have tB19 := TB _ _ _ rq19 tI19
  have F19 := fun_mk (st := s_areprices) l19 c19x k19
  have b19 := F19.binds (ps := ["thing", "many"]) fun _ _ _ _ _ _ us hl => match us, hl with | [_, _], _ => rfl
  have g19 := PySem.W.mg_of X G a19
  have F20 := fun_mk (st := s_istupleof) l20 c20x k20
  have b20 := F20.binds (ps := ["thing", "many"]) fun _ _ _ _ _ _ us hl => match us, hl with | [_, _], _ => rfl
  have g20 := PySem.W.mg_of X G a20
  have F21 := fun_mk (st := s_ismarketbyform) l21 c21x k21
  have b21 := F21.binds (ps := ["thing"]) fun _ _ _ _ _ _ us hl => match us, hl with | [_], _ => rfl
  have g21 := PySem.W.mg_of X G a21
  have F22 := fun_mk (st := s_marketwrong) l22 c22x k22
  have b22 := F22.binds (ps := ["thing"]) fun _ _ _ _ _ _ us hl => match us, hl with | [_], _ => rfl
  have g22 := PySem.W.mg_of X G a22
  have FC23 : FunC K "need_way" "need_way" s_needway f23 cc_23 _ := ⟨⟨_, _, _, _, _, _, _, _, rfl, l23, c23x⟩, k23⟩
  have tI23 : PySem.W.tabIn K "need_way" = some (cc_23, TT_23) := tab_mk a23 l23 rfl lc23 v11_23
  have tB23 := TB _ _ _ rq23 tI23
  have F23 := fun_mk (st := s_needway) l23 c23x k23
  have b23 := F23.binds (ps := ["market", "one", "other", "way"]) fun _ _ _ _ _ _ us hl => match us, hl with | [_, _, _, _], _ => rfl
  have g23 := PySem.W.mg_of X G a23
  have F24 := fun_mk (st := s_amountsby) l24 c24x k24
  have b24 := F24.binds (ps := ["market", "one", "other", "way"]) fun _ _ _ _ _ _ us hl => match us, hl with | [_, _, _, _], _ => rfl
  have g24 := PySem.W.mg_of X G a24
  have FC25 : FunC K "come_to_at" "come_to_at" s_cometoat f25 cc_25 _ := ⟨⟨_, _, _, _, _, _, _, _, rfl, l25, c25x⟩, k25⟩
  have tI25 : PySem.W.tabIn K "come_to_at" = some (cc_25, TT_25) := tab_mk a25 l25 rfl lc25 v11_25
  have tB25 := TB _ _ _ rq25 tI25
  have F25 := fun_mk (st := s_cometoat) l25 c25x k25
  have b25 := F25.binds (ps := ["prices", "amounts"]) fun _ _ _ _ _ _ us hl => match us, hl with | [_, _], _ => rfl
  have g25 := PySem.W.mg_of X G a25
  have F26 := fun_mk (st := s_greatestdivisor) l26 c26x k26
  have b26 := F26.binds (ps := ["one", "other"]) fun _ _ _ _ _ _ us hl => match us, hl with | [_, _], _ => rfl
  have g26 := PySem.W.mg_of X G a26
  have F27 := fun_mk (st := s_fraction) l27 c27x k27
  have b27 := F27.binds (ps := ["top", "bottom"]) fun _ _ _ _ _ _ us hl => match us, hl with | [_, _], _ => rfl
  have g27 := PySem.W.mg_of X G a27
  have F28 := fun_mk (st := s_numberof) l28 c28x k28
  have b28 := F28.binds (ps := ["market", "one", "other", "way"]) fun _ _ _ _ _ _ us hl => match us, hl with | [_, _, _, _], _ => rfl
  have g28 := PySem.W.mg_of X G a28
  have F29 := fun_mk (st := s_number) l29 c29x k29
  have b29 := F29.binds (ps := ["market", "one", "other", "way"]) fun _ _ _ _ _ _ us hl => match us, hl with | [_, _, _, _], _ => rfl
  have g29 := PySem.W.mg_of X G a29
  have F30 := fun_mk (st := Cv.sPurse) l30 c30x k30
  have b30 := F30.binds (ps := ["_law_script"]) fun _ _ _ _ _ _ us hl => match us, hl with | [_], _ => rfl
  have g30 := PySem.W.mg_of X G a30
  have F31 := fun_mk (st := s_law) l31 c31x k31
  have n_abs := PySem.W.mg_none_of X G z_abs
  have n_all := PySem.W.mg_none_of X G z_all
  have n_bool := PySem.W.mg_none_of X G z_bool
  have n_enumerate := PySem.W.mg_none_of X G z_enumerate
  have n_int := PySem.W.mg_none_of X G z_int
  have n_isinstance := PySem.W.mg_none_of X G z_isinstance
  have n_len := PySem.W.mg_none_of X G z_len
  have n_list := PySem.W.mg_none_of X G z_list
  have n_max := PySem.W.mg_none_of X G z_max
  have n_range := PySem.W.mg_none_of X G z_range
  have n_repr := PySem.W.mg_none_of X G z_repr
  have n_set := PySem.W.mg_none_of X G z_set
  have n_str := PySem.W.mg_none_of X G z_str
  have n_sum := PySem.W.mg_none_of X G z_sum
  have n_tuple := PySem.W.mg_none_of X G z_tuple
  have n_zip := PySem.W.mg_none_of X G z_zip
  have v_MOST_AMOUNT := PySem.W.mg_of X G m0
  have v_MOST_GOODS := PySem.W.mg_of X G m1
  have v_MOST_NAME := PySem.W.mg_of X G m2
  have v_MOST_PRICE := PySem.W.mg_of X G m3
  have v_MOST_TIMES := PySem.W.mg_of X G m4
  have v_NEW := PySem.W.mg_of X G m5
  have v_OLD := PySem.W.mg_of X G m6
  have p_C0 := PySem.W.mg_of X G q_C0
  have p_cM := PySem.W.mg_of X G q_cM
  have p_cT := PySem.W.mg_of X G q_cT
  have p_cW := PySem.W.mg_of X G q_cW
  have xo_NoMarket : OwnX K mg "NoMarket" cM := ⟨p_cM, x_cM, xk_cM, xb_cM, xt_cM⟩
  have xo_NoTime : OwnX K mg "NoTime" cT := ⟨p_cT, x_cT, xk_cT, xb_cT, xt_cT⟩
  have xo_NoWay : OwnX K mg "NoWay" cW := ⟨p_cW, x_cW, xk_cW, xb_cW, xt_cW⟩
  refine ⟨PySem.W.fnOf "law" "law" (defArgs s_law) (defBody s_law) (defScope s_law) .none kV31 dc31 pm31 an31 cd31 ct31, [(cc_14, TT_14), (cc_16, TT_16), (cc_18, TT_18), (cc_19, TT_19), (cc_23, TT_23), (cc_25, TT_25)], spLaw K [TT_14, TT_16, TT_18, TT_19, TT_23, TT_25], fun q hq => ?_, fun s v => .of_eq rfl, fun H a ns hl hT hS => ⟨a, ns, rfl, hS, fun Pt hPt => ?_, fun _ => rfl⟩, fun base _ _ tb => ?_⟩
  · skip
    rcases List.mem_cons.mp hq with e | hq
    · rw [e]
      exact tB14
    rcases List.mem_cons.mp hq with e | hq
    · rw [e]
      exact tB16
    rcases List.mem_cons.mp hq with e | hq
    · rw [e]
      exact tB18
    rcases List.mem_cons.mp hq with e | hq
    · rw [e]
      exact tB19
    rcases List.mem_cons.mp hq with e | hq
    · rw [e]
      exact tB23
    rw [List.mem_singleton.mp hq]
    exact tB25
  · skip
    rcases List.mem_cons.mp hPt with e | hPt
    · rw [e]
      exact ⟨#[], hT (cc_14, TT_14) List.mem_cons_self, trivial⟩
    rcases List.mem_cons.mp hPt with e | hPt
    · rw [e]
      exact ⟨#[], hT (cc_16, TT_16) (List.mem_cons_of_mem _ List.mem_cons_self), trivial⟩
    rcases List.mem_cons.mp hPt with e | hPt
    · rw [e]
      exact ⟨#[], hT (cc_18, TT_18) (List.mem_cons_of_mem _ (List.mem_cons_of_mem _ List.mem_cons_self)), trivial⟩
    rcases List.mem_cons.mp hPt with e | hPt
    · rw [e]
      exact ⟨#[], hT (cc_19, TT_19) (List.mem_cons_of_mem _ (List.mem_cons_of_mem _ (List.mem_cons_of_mem _ List.mem_cons_self))), trivial⟩
    rcases List.mem_cons.mp hPt with e | hPt
    · rw [e]
      exact ⟨#[], hT (cc_23, TT_23) (List.mem_cons_of_mem _ (List.mem_cons_of_mem _ (List.mem_cons_of_mem _ (List.mem_cons_of_mem _ List.mem_cons_self)))), trivial⟩
    rw [List.mem_singleton.mp hPt]
    exact ⟨#[], hT (cc_25, TT_25) (List.mem_cons_of_mem _ (List.mem_cons_of_mem _ (List.mem_cons_of_mem _ (List.mem_cons_of_mem _ (List.mem_cons_of_mem _ List.mem_cons_self))))), trivial⟩
  · skip
    have t_14 := tb (cc_14, TT_14) List.mem_cons_self
    have t_16 := tb (cc_16, TT_16) (List.mem_cons_of_mem _ List.mem_cons_self)
    have t_18 := tb (cc_18, TT_18) (List.mem_cons_of_mem _ (List.mem_cons_of_mem _ List.mem_cons_self))
    have t_19 := tb (cc_19, TT_19) (List.mem_cons_of_mem _ (List.mem_cons_of_mem _ (List.mem_cons_of_mem _ List.mem_cons_self)))
    have t_23 := tb (cc_23, TT_23) (List.mem_cons_of_mem _ (List.mem_cons_of_mem _ (List.mem_cons_of_mem _ (List.mem_cons_of_mem _ List.mem_cons_self))))
    have t_25 := tb (cc_25, TT_25) (List.mem_cons_of_mem _ (List.mem_cons_of_mem _ (List.mem_cons_of_mem _ (List.mem_cons_of_mem _ (List.mem_cons_of_mem _ List.mem_cons_self)))))
    have a_ok_Ldraw : ∀ k, AtD P w K mg base (k + 1) [TT_14, TT_16, TT_18, TT_19, TT_23, TT_25] "_law_draw" ["_law_purse", "_law_out_of"] (G__law_draw) := fun k => ⟨_, _, ok_Ldraw (k := k + 0) (F := F0) (ml := n_len), k0, b0, g0⟩
    have a_ok_Lpick : ∀ k, AtD P w K mg base (k + 2) [TT_14, TT_16, TT_18, TT_19, TT_23, TT_25] "_law_pick" ["_law_purse", "_law_some"] (G__law_pick) := fun k => ⟨_, _, ok_Lpick (k := k + 1) (F := F1) (A__law_draw := a_ok_Ldraw (k + 0)) (m_len := n_len), k1, b1, g1⟩
    have a_ok_Lbent : ∀ k, AtD P w K mg base (k + 3) [TT_14, TT_16, TT_18, TT_19, TT_23, TT_25] "_law_bent" ["_law_purse", "_law_market"] (G__law_bent) := fun k => ⟨_, _, ok_Lbent (k := k + 2) (F := F2) (A__law_draw := a_ok_Ldraw (k + 1)) (A__law_pick := a_ok_Lpick (k + 0)) (m_len := n_len) (m_list := n_list) (m_range := n_range) (m_tuple := n_tuple), k2, b2, g2⟩
    have a_ok_Lmarketby : ∀ k, AtD P w K mg base (k + 2) [TT_14, TT_16, TT_18, TT_19, TT_23, TT_25] "_law_market_by" ["_law_purse", "_law_most"] (G__law_market_by) := fun k => ⟨_, _, ok_Lmarketby (k := k + 1) (F := F3) (A__law_draw := a_ok_Ldraw (k + 0)) (m_len := n_len) (m_list := n_list) (m_range := n_range) (m_sum := n_sum) (m_tuple := n_tuple), k3, b3, g3⟩
    have a_ok_Llowb : ∀ k, AtD P w K mg base (k + 1) [TT_14, TT_16, TT_18, TT_19, TT_23, TT_25] "_law_lowest" ["_law_top", "_law_bottom"] (G__law_lowb) := fun k => ⟨_, _, ok_Llowb (k := k + 0) (F := F4) (m_abs := n_abs), k4, b4, g4⟩
    have a_ok_Lsum : ∀ k, AtD P w K mg base (k + 1) [TT_14, TT_16, TT_18, TT_19, TT_23, TT_25] "_law_sum" ["_law_market", "_law_k", "_law_amounts_here"] (G__law_sum) := fun k => ⟨_, _, ok_Lsum (k := k + 0) (F := F5) (m_sum := n_sum) (m_zip := n_zip), k5, b5, g5⟩
    have a_ok_Lnumber : ∀ k, AtD P w K mg base (k + 2) [TT_14, TT_16, TT_18, TT_19, TT_23, TT_25] "_law_number" ["_law_market", "_law_one", "_law_other", "_law_way_here"] (G__law_number) := fun k => ⟨_, _, ok_Lnumber (k := k + 1) (F := F6) (A__law_lowest := a_ok_Llowb (k + 0)) (A__law_sum := a_ok_Lsum (k + 0)) (m_int := n_int), k6, b6, g6⟩
    have a_ok_Lisname : ∀ k, AtD P w K mg base (k + 1) [TT_14, TT_16, TT_18, TT_19, TT_23, TT_25] "_law_is_name" ["_law_thing"] (G__law_is_name) := fun k => ⟨_, _, ok_Lisname (k := k + 0) (F := F7) (m_isinstance := n_isinstance) (m_len := n_len) (m_str := n_str), k7, b7, g7⟩
    have a_ok_Liswhole : ∀ k, AtD P w K mg base (k + 1) [TT_14, TT_16, TT_18, TT_19, TT_23, TT_25] "_law_is_whole" ["_law_thing"] (G__law_is_whole) := fun k => ⟨_, _, ok_Liswhole (k := k + 0) (F := F8) (m_bool := n_bool) (m_int := n_int) (m_isinstance := n_isinstance), k8, b8, g8⟩
    have a_ok_Llineswrong : ∀ k, AtD P w K mg base (k + 2) [TT_14, TT_16, TT_18, TT_19, TT_23, TT_25] "_law_lines_wrong" ["_law_rows", "_law_many", "_law_least"] (G__law_lines_wrong) := fun k => ⟨_, _, ok_Llineswrong (k := k + 1) (F := F9) (A__law_is_whole := a_ok_Liswhole (k + 0)) (m_enumerate := n_enumerate) (m_isinstance := n_isinstance) (m_len := n_len) (m_list := n_list) (m_sum := n_sum), k9, b9, g9⟩
    have a_ok_Lwrong : ∀ k, AtD P w K mg base (k + 3) [TT_14, TT_16, TT_18, TT_19, TT_23, TT_25] "_law_wrong" ["_law_thing"] (G__law_wrong) := fun k => ⟨_, _, ok_Lwrong (k := k + 2) (F := F10) (A__law_is_name := a_ok_Lisname (k + 1)) (A__law_lines_wrong := a_ok_Llineswrong (k + 0)) (m_isinstance := n_isinstance) (m_len := n_len) (m_list := n_list) (m_tuple := n_tuple), k10, b10, g10⟩
    have a_ok_islistof : ∀ k, AtD P w K mg base (k + 1) [TT_14, TT_16, TT_18, TT_19, TT_23, TT_25] "is_list_of" ["thing", "many"] (G_is_list_of) := fun k => ⟨_, _, ok_islistof (k := k + 0) (F := F11) (m_isinstance := n_isinstance) (m_len := n_len) (m_list := n_list), k11, b11, g11⟩
    have a_ok_iswhole : ∀ k, AtD P w K mg base (k + 1) [TT_14, TT_16, TT_18, TT_19, TT_23, TT_25] "is_whole" ["thing"] (G_is_whole) := fun k => ⟨_, _, ok_iswhole (k := k + 0) (F := F12) (m_bool := n_bool) (m_int := n_int) (m_isinstance := n_isinstance), k12, b12, g12⟩
    have a_ok_iswholewithin : ∀ k, AtD P w K mg base (k + 2) [TT_14, TT_16, TT_18, TT_19, TT_23, TT_25] "is_whole_within" ["thing", "least", "most"] (G_is_whole_within) := fun k => ⟨_, _, ok_iswholewithin (k := k + 1) (F := F13) (A_is_whole := a_ok_iswhole (k + 0)), k13, b13, g13⟩
    have a_ok_areamounts : ∀ k, AtD P w K mg base (k + 4) [TT_14, TT_16, TT_18, TT_19, TT_23, TT_25] "are_amounts" ["thing", "many"] (G_are_amounts) := fun k => ⟨_, _, ok_areamounts (k := k + 2) (F := FC14) (TB := t_14) (hP := List.mem_cons_self) (A_is_list_of := a_ok_islistof (k + 1)) (A_is_whole_within := a_ok_iswholewithin (k + 0)) (m_all := n_all) (m_max := n_max) (mc_MOST_AMOUNT := v_MOST_AMOUNT), k14, b14, g14⟩
    have a_ok_issmallletter : ∀ k, AtD P w K mg base (k + 1) [TT_14, TT_16, TT_18, TT_19, TT_23, TT_25] "is_small_letter" ["sign"] (G_is_small_letter) := fun k => ⟨_, _, ok_issmallletter (k := k + 0) (F := F15), k15, b15, g15⟩
    have a_ok_isword : ∀ k, AtD P w K mg base (k + 3) [TT_14, TT_16, TT_18, TT_19, TT_23, TT_25] "is_word" ["thing", "most"] (G_is_word) := fun k => ⟨_, _, ok_isword (k := k + 1) (F := FC16) (TB := t_16) (hP := (List.mem_cons_of_mem _ List.mem_cons_self)) (A_is_small_letter := a_ok_issmallletter (k + 0)) (m_all := n_all) (m_isinstance := n_isinstance) (m_len := n_len) (m_str := n_str), k16, b16, g16⟩
    have a_ok_isname : ∀ k, AtD P w K mg base (k + 4) [TT_14, TT_16, TT_18, TT_19, TT_23, TT_25] "is_name" ["thing"] (G_is_name) := fun k => ⟨_, _, ok_isname (k := k + 3) (F := F17) (A_is_word := a_ok_isword (k + 0)) (mc_MOST_NAME := v_MOST_NAME), k17, b17, g17⟩
    have a_ok_aregoods : ∀ k, AtD P w K mg base (k + 6) [TT_14, TT_16, TT_18, TT_19, TT_23, TT_25] "are_goods" ["thing"] (G_are_goods) := fun k => ⟨_, _, ok_aregoods (k := k + 4) (F := FC18) (TB := t_18) (hP := (List.mem_cons_of_mem _ (List.mem_cons_of_mem _ List.mem_cons_self))) (A_is_name := a_ok_isname (k + 0)) (m_all := n_all) (m_isinstance := n_isinstance) (m_len := n_len) (m_set := n_set) (m_tuple := n_tuple) (mc_MOST_GOODS := v_MOST_GOODS), k18, b18, g18⟩
    have a_ok_areprices : ∀ k, AtD P w K mg base (k + 4) [TT_14, TT_16, TT_18, TT_19, TT_23, TT_25] "are_prices" ["thing", "many"] (G_are_prices) := fun k => ⟨_, _, ok_areprices (k := k + 2) (F := FC19) (TB := t_19) (hP := (List.mem_cons_of_mem _ (List.mem_cons_of_mem _ (List.mem_cons_of_mem _ List.mem_cons_self)))) (A_is_list_of := a_ok_islistof (k + 1)) (A_is_whole_within := a_ok_iswholewithin (k + 0)) (m_all := n_all) (mc_MOST_PRICE := v_MOST_PRICE), k19, b19, g19⟩
    have a_ok_istupleof : ∀ k, AtD P w K mg base (k + 1) [TT_14, TT_16, TT_18, TT_19, TT_23, TT_25] "is_tuple_of" ["thing", "many"] (G_is_tuple_of) := fun k => ⟨_, _, ok_istupleof (k := k + 0) (F := F20) (m_isinstance := n_isinstance) (m_len := n_len) (m_tuple := n_tuple), k20, b20, g20⟩
    have a_ok_ismarketbyform : ∀ k, AtD P w K mg base (k + 2) [TT_14, TT_16, TT_18, TT_19, TT_23, TT_25] "is_market_by_form" ["thing"] (G_is_market_by_form) := fun k => ⟨_, _, ok_ismarketbyform (k := k + 1) (F := F21) (A_is_list_of := a_ok_islistof (k + 0)) (A_is_tuple_of := a_ok_istupleof (k + 0)) (m_isinstance := n_isinstance) (m_len := n_len) (m_list := n_list) (mc_MOST_TIMES := v_MOST_TIMES), k21, b21, g21⟩
    have a_ok_marketwrong : ∀ k, AtD P w K mg base (k + 7) [TT_14, TT_16, TT_18, TT_19, TT_23, TT_25] "market_wrong" ["thing"] (G_market_wrong) := fun k => ⟨_, _, ok_marketwrong (k := k + 6) (F := F22) (A_are_amounts := a_ok_areamounts (k + 2)) (A_are_goods := a_ok_aregoods (k + 0)) (A_are_prices := a_ok_areprices (k + 2)) (A_is_market_by_form := a_ok_ismarketbyform (k + 4)) (m_enumerate := n_enumerate) (m_len := n_len), k22, b22, g22⟩
    have a_ok_needway : ∀ k, AtD P w K mg base (k + 9) [TT_14, TT_16, TT_18, TT_19, TT_23, TT_25] "need_way" ["market", "one", "other", "way"] (G_need_way cM cT cW) := fun k => ⟨_, _, ok_needway (k := k + 7) (F := FC23) (TB := t_23) (hP := (List.mem_cons_of_mem _ (List.mem_cons_of_mem _ (List.mem_cons_of_mem _ (List.mem_cons_of_mem _ List.mem_cons_self))))) (A_is_whole_within := a_ok_iswholewithin (k + 5)) (A_market_wrong := a_ok_marketwrong (k + 0)) (m_all := n_all) (m_len := n_len) (mc_NEW := v_NEW) (mc_OLD := v_OLD) (X_NoMarket := xo_NoMarket) (X_NoTime := xo_NoTime) (X_NoWay := xo_NoWay), k23, b23, g23⟩
    have a_ok_amountsby : ∀ k, AtD P w K mg base (k + 1) [TT_14, TT_16, TT_18, TT_19, TT_23, TT_25] "amounts_by" ["market", "one", "other", "way"] (G_amounts_by) := fun k => ⟨_, _, ok_amountsby (k := k + 0) (F := F24) (mc_OLD := v_OLD), k24, b24, g24⟩
    have a_ok_cometoat : ∀ k, AtD P w K mg base (k + 2) [TT_14, TT_16, TT_18, TT_19, TT_23, TT_25] "come_to_at" ["prices", "amounts"] (G_come_to_at) := fun k => ⟨_, _, ok_cometoat (k := k + 0) (F := FC25) (TB := t_25) (hP := (List.mem_cons_of_mem _ (List.mem_cons_of_mem _ (List.mem_cons_of_mem _ (List.mem_cons_of_mem _ (List.mem_cons_of_mem _ List.mem_cons_self)))))) (m_sum := n_sum) (m_zip := n_zip), k25, b25, g25⟩
    have a_ok_greatestdivisor : ∀ k, AtD P w K mg base (k + 1) [TT_14, TT_16, TT_18, TT_19, TT_23, TT_25] "greatest_divisor" ["one", "other"] (G_greatest_divisor) := fun k => ⟨_, _, ok_greatestdivisor (k := k + 0) (F := F26) (m_abs := n_abs), k26, b26, g26⟩
    have a_ok_fraction : ∀ k, AtD P w K mg base (k + 2) [TT_14, TT_16, TT_18, TT_19, TT_23, TT_25] "fraction" ["top", "bottom"] (G_fraction) := fun k => ⟨_, _, ok_fraction (k := k + 1) (F := F27) (A_greatest_divisor := a_ok_greatestdivisor (k + 0)), k27, b27, g27⟩
    have a_ok_numberof : ∀ k, AtD P w K mg base (k + 3) [TT_14, TT_16, TT_18, TT_19, TT_23, TT_25] "number_of" ["market", "one", "other", "way"] (G_number_of) := fun k => ⟨_, _, ok_numberof (k := k + 2) (F := F28) (A_amounts_by := a_ok_amountsby (k + 1)) (A_come_to_at := a_ok_cometoat (k + 0)) (A_fraction := a_ok_fraction (k + 0)), k28, b28, g28⟩
    have a_ok_number : ∀ k, AtD P w K mg base (k + 10) [TT_14, TT_16, TT_18, TT_19, TT_23, TT_25] "number" ["market", "one", "other", "way"] (G_number cM cT cW) := fun k => ⟨_, _, ok_number (k := k + 9) (F := F29) (A_need_way := a_ok_needway (k + 0)) (A_number_of := a_ok_numberof (k + 6)), k29, b29, g29⟩
    have ap : ∃ fP dP, FnOk P w K mg base CX0 10 fP dP ["_law_script"] (Cv.spPurse K) ∧ PySem.W.keepIn K (.ref fP) = true ∧ Binds K dP ["_law_script"] [] ∧ mg "_law_purse_by" = some (.ref fP) := ⟨_, _, Cv.ok_purse (k := 9) F30 n_range n_len n_abs, k30, b30, g30⟩
    exact ok_law (k := 10) (tb := [TT_14, TT_16, TT_18, TT_19, TT_23, TT_25]) (F := F31) (AP := ap) (A__law_bent := a_ok_Lbent (7)) (A__law_draw := a_ok_Ldraw (9)) (A__law_market_by := a_ok_Lmarketby (8)) (A__law_number := a_ok_Lnumber (8)) (A__law_wrong := a_ok_Lwrong (7)) (A_market_wrong := a_ok_marketwrong (3)) (A_number := a_ok_number (0)) (m_isinstance := n_isinstance) (m_len := n_len) (m_range := n_range) (m_repr := n_repr) (m_tuple := n_tuple)
end Dv
open PySem PySem.W PyProof.Rows
set_option maxRecDepth 100000 in
set_option maxHeartbeats 0 in
theorem PySem.Challenge.cw_countveil_k65_price_numbers_told_holds : PySem.Challenge.rw_countveil_k65_price_numbers_told.Holds := by
  w_on; o_law; k_head; (case hw => w_witness2)
  k_fill
  refine Cv.walk_atT (l := PySem.Challenge.rw_countveil_k65_price_numbers_told) (n := 63) (k := 11) (x := "_law_script") rfl (by decide) rfl ⟨rfl, by decide, by decide⟩ (fun w h Y => PySem.W.kIn_of Y) ?hK ?F
  case hK =>
    intro w
    exact (Eq.refl true)
  case F =>
    intro w mg fa h KX G hmg TB
    refine' Dv.all_mk KX G hmg TB ?a0 ?l0 ?c0x ?k0 ?a1 ?l1 ?c1x ?k1 ?a2 ?l2 ?c2x ?k2 ?a3 ?l3 ?c3x ?k3 ?a4 ?l4 ?c4x ?k4 ?a5 ?l5 ?c5x ?k5 ?a6 ?l6 ?c6x ?k6 ?a7 ?l7 ?c7x ?k7 ?a8 ?l8 ?c8x ?k8 ?a9 ?l9 ?c9x ?k9 ?a10 ?l10 ?c10x ?k10 ?a11 ?l11 ?c11x ?k11 ?a12 ?l12 ?c12x ?k12 ?a13 ?l13 ?c13x ?k13 ?a14 ?l14 ?c14x ?k14 ?lc14 ?v11_14 ?rq14 ?a15 ?l15 ?c15x ?k15 ?a16 ?l16 ?c16x ?k16 ?lc16 ?v11_16 ?rq16 ?a17 ?l17 ?c17x ?k17 ?a18 ?l18 ?c18x ?k18 ?lc18 ?v11_18 ?rq18 ?a19 ?l19 ?c19x ?k19 ?lc19 ?v11_19 ?rq19 ?a20 ?l20 ?c20x ?k20 ?a21 ?l21 ?c21x ?k21 ?a22 ?l22 ?c22x ?k22 ?a23 ?l23 ?c23x ?k23 ?lc23 ?v11_23 ?rq23 ?a24 ?l24 ?c24x ?k24 ?a25 ?l25 ?c25x ?k25 ?lc25 ?v11_25 ?rq25 ?a26 ?l26 ?c26x ?k26 ?a27 ?l27 ?c27x ?k27 ?a28 ?l28 ?c28x ?k28 ?a29 ?l29 ?c29x ?k29 ?a30 ?l30 ?c30x ?k30 ?a31 ?l31 ?c31x ?k31 ?m0 ?m1 ?m2 ?m3 ?m4 ?m5 ?m6 ?z_abs ?z_all ?z_bool ?z_enumerate ?z_int ?z_isinstance ?z_len ?z_list ?z_max ?z_range ?z_repr ?z_set ?z_str ?z_sum ?z_tuple ?z_zip ?q_C0 ?q_cM ?q_cT ?q_cW ?x_cM ?xk_cM ?xb_cM ?xt_cM ?x_cT ?xk_cT ?xb_cT ?xt_cT ?x_cW ?xk_cW ?xb_cW ?xt_cW ?e0 ?d0 ?t0 ?hn ?ht
    (case a0 => k_is)
    (case l0 => k_is)
    (case c0x => k_is)
    (case k0 => k_is)
    (case a1 => k_is)
    (case l1 => k_is)
    (case c1x => k_is)
    (case k1 => k_is)
    (case a2 => k_is)
    (case l2 => k_is)
    (case c2x => k_is)
    (case k2 => k_is)
    (case a3 => k_is)
    (case l3 => k_is)
    (case c3x => k_is)
    (case k3 => k_is)
    (case a4 => k_is)
    (case l4 => k_is)
    (case c4x => k_is)
    (case k4 => k_is)
    (case a5 => k_is)
    (case l5 => k_is)
    (case c5x => k_is)
    (case k5 => k_is)
    (case a6 => k_is)
    (case l6 => k_is)
    (case c6x => k_is)
    (case k6 => k_is)
    (case a7 => k_is)
    (case l7 => k_is)
    (case c7x => k_is)
    (case k7 => k_is)
    (case a8 => k_is)
    (case l8 => k_is)
    (case c8x => k_is)
    (case k8 => k_is)
    (case a9 => k_is)
    (case l9 => k_is)
    (case c9x => k_is)
    (case k9 => k_is)
    (case a10 => k_is)
    (case l10 => k_is)
    (case c10x => k_is)
    (case k10 => k_is)
    (case a11 => k_is)
    (case l11 => k_is)
    (case c11x => k_is)
    (case k11 => k_is)
    (case a12 => k_is)
    (case l12 => k_is)
    (case c12x => k_is)
    (case k12 => k_is)
    (case a13 => k_is)
    (case l13 => k_is)
    (case c13x => k_is)
    (case k13 => k_is)
    (case a14 => k_is)
    (case l14 => k_is)
    (case c14x => k_is)
    (case k14 => k_is)
    (case lc14 => k_is)
    (case v11_14 => rfl)
    (case rq14 => first | rfl | decide +kernel)
    (case a15 => k_is)
    (case l15 => k_is)
    (case c15x => k_is)
    (case k15 => k_is)
    (case a16 => k_is)
    (case l16 => k_is)
    (case c16x => k_is)
    (case k16 => k_is)
    (case lc16 => k_is)
    (case v11_16 => rfl)
    (case rq16 => first | rfl | decide +kernel)
    (case a17 => k_is)
    (case l17 => k_is)
    (case c17x => k_is)
    (case k17 => k_is)
    (case a18 => k_is)
    (case l18 => k_is)
    (case c18x => k_is)
    (case k18 => k_is)
    (case lc18 => k_is)
    (case v11_18 => rfl)
    (case rq18 => first | rfl | decide +kernel)
    (case a19 => k_is)
    (case l19 => k_is)
    (case c19x => k_is)
    (case k19 => k_is)
    (case lc19 => k_is)
    (case v11_19 => rfl)
    (case rq19 => first | rfl | decide +kernel)
    (case a20 => k_is)
    (case l20 => k_is)
    (case c20x => k_is)
    (case k20 => k_is)
    (case a21 => k_is)
    (case l21 => k_is)
    (case c21x => k_is)
    (case k21 => k_is)
    (case a22 => k_is)
    (case l22 => k_is)
    (case c22x => k_is)
    (case k22 => k_is)
    (case a23 => k_is)
    (case l23 => k_is)
    (case c23x => k_is)
    (case k23 => k_is)
    (case lc23 => k_is)
    (case v11_23 => rfl)
    (case rq23 => first | rfl | decide +kernel)
    (case a24 => k_is)
    (case l24 => k_is)
    (case c24x => k_is)
    (case k24 => k_is)
    (case a25 => k_is)
    (case l25 => k_is)
    (case c25x => k_is)
    (case k25 => k_is)
    (case lc25 => k_is)
    (case v11_25 => rfl)
    (case rq25 => first | rfl | decide +kernel)
    (case a26 => k_is)
    (case l26 => k_is)
    (case c26x => k_is)
    (case k26 => k_is)
    (case a27 => k_is)
    (case l27 => k_is)
    (case c27x => k_is)
    (case k27 => k_is)
    (case a28 => k_is)
    (case l28 => k_is)
    (case c28x => k_is)
    (case k28 => k_is)
    (case a29 => k_is)
    (case l29 => k_is)
    (case c29x => k_is)
    (case k29 => k_is)
    (case a30 => k_is)
    (case l30 => k_is)
    (case c30x => k_is)
    (case k30 => k_is)
    (case a31 => k_is)
    (case l31 => k_is)
    (case c31x => k_is)
    (case k31 => k_is)
    (case m0 => k_is)
    (case m1 => k_is)
    (case m2 => k_is)
    (case m3 => k_is)
    (case m4 => k_is)
    (case m5 => k_is)
    (case m6 => k_is)
    (case z_abs => k_is)
    (case z_all => k_is)
    (case z_bool => k_is)
    (case z_enumerate => k_is)
    (case z_int => k_is)
    (case z_isinstance => k_is)
    (case z_len => k_is)
    (case z_list => k_is)
    (case z_max => k_is)
    (case z_range => k_is)
    (case z_repr => k_is)
    (case z_set => k_is)
    (case z_str => k_is)
    (case z_sum => k_is)
    (case z_tuple => k_is)
    (case z_zip => k_is)
    (case q_C0 => k_is)
    (case q_cM => k_is)
    (case q_cT => k_is)
    (case q_cW => k_is)
    (case x_cM => first | k_exc | kernel_rfl)
    (case xk_cM => k_is)
    (case xb_cM => k_is)
    (case xt_cM => k_is)
    (case x_cT => first | k_exc | kernel_rfl)
    (case xk_cT => k_is)
    (case xb_cT => k_is)
    (case xt_cT => k_is)
    (case x_cW => first | k_exc | kernel_rfl)
    (case xk_cW => k_is)
    (case xb_cW => k_is)
    (case xt_cW => k_is)
    (case e0 => k_is)
    (case d0 => k_is)
    (case t0 => k_is)
    (case hn => k_is)
    (case ht => k_is)
